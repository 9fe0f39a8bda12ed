"""What the document promises over the whole program: the same is told in all its ways."""

import copy
import random
import unittest

from plainly import drawn_machine, drawn_strip, plain_word, strips

from striproam.again import comes_round
from striproam.comparing import compared, held, shows_alike
from striproam.desk import Desk
from striproam.errors import NoStrip, TooMany
from striproam.gathering import all_tables, products
from striproam.joining import both, either, swapped, turned_about
from striproam.least import lead, least, least_of, parting
from striproam.machines import checked, machine_of, signs_of
from striproam.oneway import beginning, one_way, room_by, word_by
from striproam.papers import holds
from striproam.stopping import first_strip, stopping
from striproam.tables import behind, mirrored, said, sign_table, still, table_of, turned
from striproam.texts import machine_text, read_machine
from striproam.walks import path, sayer, walk

LENGTHS = (0, 1, 2, 3, 7, 30, 150, 400)


def machines_read_one_way(many, most_rooms, seed, stops=30):
    """Drawn machines with their one-way machines, where they have one."""
    source = random.Random(seed)
    found = []
    while len(found) < many:
        machine = drawn_machine(source, source.randint(1, most_rooms), source.randint(1, 3), stops)
        try:
            found.append((machine, one_way(machine)))
        except TooMany:
            pass
    return found


def put_together(source, machine, strip):
    """The table of a strip, of two that stand side by side one made, whichever, until there is one."""
    tables = [still(len(machine))] + [sign_table(machine, sign) for sign in strip]
    while len(tables) > 1:
        at = source.randrange(len(tables) - 1)
        tables[at:at + 2] = [behind(tables[at], tables[at + 1])]
    return tables[0]


def renumbered(source, machine):
    """The same machine with its rooms, but for room 0, in another order."""
    numbers = [0] + source.sample(range(1, len(machine)), len(machine) - 1)

    def end(part):
        return part if isinstance(part, str) else numbers[part]

    rows = [None] * len(machine)
    for room, (left, cells, right) in enumerate(machine):
        rows[numbers[room]] = [end(left), [[numbers[into], step] for into, step in cells], end(right)]
    return machine_of(rows)


class OneWord(unittest.TestCase):
    def test_the_same_word_by_walk_table_one_way_machine_and_least_form(self):
        source = random.Random(130)
        told = []
        for machine, reader in machines_read_one_way(60, 7, 131):
            smallest = least_of(machine)
            for length in LENGTHS:
                strip = drawn_strip(source, machine, length)
                word = plain_word(machine, strip)
                self.assertEqual([
                    walk(machine, strip).says(), sayer(machine)(strip),
                    said(machine, table_of(machine, strip)), said(machine, put_together(source, machine, strip)),
                    word_by(reader, strip), word_by(smallest, strip),
                ], [word] * 6)
                told.append(word)
        for word in ("by", "out", "ever"):
            self.assertGreater(told.count(word), 40)

    def test_many_rooms(self):
        source = random.Random(132)
        tried = 0
        for number in range(40):
            # To the right mark and back to the left one but once, so that there are few beginnings.
            machine = machine_of([
                [room, [[source.randrange(30), 1]], source.randrange(30, 60)] for room in range(30)
            ] + [
                [source.choice(("by", "out")), [[source.randrange(30, 60), -1]], 0] for room in range(30)
            ])
            reader = one_way(machine)
            smallest = least(reader)
            tried += len(smallest[0]) > 5
            for length in LENGTHS:
                word = plain_word(machine, "a" * length)
                self.assertEqual([word_by(reader, "a" * length), word_by(smallest, "a" * length)], [word, word])
        self.assertGreater(tried, 10)


    def test_the_machine_that_always_stops_and_the_one_turned_about(self):
        source = random.Random(137)
        seen = set()
        for machine, reader in machines_read_one_way(60, 6, 138):
            try:
                always = stopping(machine)
            except TooMany:
                continue
            about = turned_about(machine)
            for length in LENGTHS:
                strip = drawn_strip(source, machine, length)
                word = plain_word(machine, strip)
                seen.add(word)
                self.assertEqual(walk(always, strip).says(), "out" if word == "ever" else word)
                self.assertEqual(walk(about, strip[::-1]).says(), word)
                self.assertEqual(walk(swapped(machine), strip).says(), {"by": "out", "out": "by"}.get(word, word))
                self.assertEqual(word_by(least_of(always), strip), walk(always, strip).says())
        self.assertEqual(seen, {"by", "out", "ever"})

    def test_what_comes_round(self):
        source = random.Random(139)
        for machine, reader in machines_read_one_way(40, 5, 140):
            ahead, again, behind_it = [drawn_strip(source, machine, length) for length in (3, 2, 2)]
            start, length, words = comes_round(machine, ahead, again, behind_it)
            for times in range(30):
                known = times if times < start else start + (times - start) % length
                self.assertEqual(plain_word(machine, ahead + again * times + behind_it), words[known])

    def test_a_walk_comes_with_what_shows_it(self):
        source = random.Random(141)
        for number in range(60):
            machine = drawn_machine(source, source.randint(1, 8), source.randint(1, 3), 30)
            for length in LENGTHS[:6]:
                strip = drawn_strip(source, machine, length)
                ending = walk(machine, strip)
                self.assertTrue(holds(machine, strip, ending.paper()))
                if ending.stops():
                    for crossed in ending.borders:
                        for rooms in (crossed[::2], crossed[1::2]):
                            self.assertEqual(len(rooms), len(set(rooms)))
                else:
                    stands = path(machine, strip)
                    self.assertEqual([stands[ending.first], stands[ending.again]], [(ending.place, ending.room)] * 2)


class LeastForms(unittest.TestCase):
    def test_the_same_for_machines_that_say_the_same(self):
        source = random.Random(133)
        for machine, reader in machines_read_one_way(60, 6, 134):
            # Two rooms more that are never come to, and all in another order.
            rows = list(machine) + [("by", machine[0][1], "out")] * 2
            other = renumbered(source, machine_of(rows))
            self.assertEqual(least_of(other), least(reader))
            word, pairs = compared(machine, other)
            self.assertEqual(word, "alike")
            self.assertTrue(shows_alike(reader, one_way(other), pairs))

    def test_each_room_with_its_strip_and_each_two_with_theirs(self):
        for machine, reader in machines_read_one_way(30, 4, 135):
            smallest = least(reader)
            rooms = range(len(smallest[0]))
            firsts = [lead(smallest, room) for room in rooms]
            self.assertEqual([room_by(smallest, strip) for strip in firsts], list(rooms))
            for one in rooms:
                for other in rooms:
                    strip = parting(smallest, one, other)
                    self.assertEqual(strip is None, one == other)
                    if strip is not None:
                        self.assertNotEqual(
                            plain_word(machine, firsts[one] + strip), plain_word(machine, firsts[other] + strip)
                        )

    def test_equal_just_where_told_alike(self):
        found = machines_read_one_way(60, 2, 136)
        alike = unlike = 0
        for one, reader in found:
            for other, second in found:
                if signs_of(one) == signs_of(other):
                    word, shown = held(reader, second)
                    self.assertEqual(word == "alike", least(reader) == least(second))
                    if word == "alike":
                        alike += 1
                    else:
                        unlike += 1
                        self.assertNotEqual(plain_word(one, shown), plain_word(other, shown))
                        for strip in strips(signs_of(one), min(len(shown), 4)):
                            if (len(strip), strip) < (len(shown), shown):
                                self.assertEqual(plain_word(one, strip), plain_word(other, strip))
        self.assertGreater(min(alike, unlike), 200)

    def test_joined_in_two_orders(self):
        found = machines_read_one_way(80, 2, 142, stops=60)
        tried = 0
        for one, reader in found[::2]:
            for two, second in found[1::2]:
                if signs_of(one) != signs_of(two) or "ever" in reader[1] + second[1]:
                    continue
                tried += 1
                # Where neither goes for ever, it is all the same which comes first, and not either is both not.
                self.assertEqual(compared(either(one, two), either(two, one))[0], "alike")
                self.assertEqual(least_of(swapped(either(one, two))), least_of(both(swapped(two), swapped(one))))
        self.assertGreater(tried, 50)


EXAMPLE = read_machine("1,0>,1<,out 0,1>,0>,by")


class AnotherSign(unittest.TestCase):
    def askers(self, machine):
        """All that takes a strip, each with one strip alone left open."""
        reader = one_way(machine)
        desk = Desk()
        desk.told(f"keep x {machine_text(machine)}")
        return [
            lambda strip: checked(machine, strip),
            lambda strip: path(machine, strip),
            lambda strip: walk(machine, strip),
            sayer(machine),
            lambda strip: holds(machine, strip, ("by", ())),
            lambda strip: holds(machine, strip, ("ever", 0, 0, 0, 1)),
            lambda strip: table_of(machine, strip),
            lambda strip: beginning(machine, strip),
            lambda strip: room_by(reader, strip),
            lambda strip: word_by(reader, strip),
            lambda strip: comes_round(machine, strip, "a", "a"),
            lambda strip: comes_round(machine, "a", strip, "a"),
            lambda strip: comes_round(machine, "a", "a", strip),
            lambda strip: comes_round(machine, strip, strip),
            lambda strip: desk.told(f"walk x {strip}"),
            lambda strip: desk.told(f"border x {strip} 0"),
            lambda strip: desk.told(f"again x {strip} a a"),
            lambda strip: desk.told(f"again x a {strip} a"),
            lambda strip: desk.told(f"again x a a {strip}"),
        ]

    def test_refused_by_its_number(self):
        for text, bad in (("0,0>,by", "bcAd-0.z"), ("0,0>,0>,by", "cABd-0.z"), ("0,0>,0>,0>,by", "dABC+0.z")):
            machine = read_machine(text)
            for ask in self.askers(machine):
                for sign in bad:
                    for strip, at in (
                        (sign + "a", 0), ("a" + sign, 1), ("a" * 7 + sign + "aa", 7), ("aa" + sign * 3, 2),
                        ("a" * 399 + sign, 399), (sign + bad[::-1], 0),
                    ):
                        with self.assertRaises(NoStrip) as caught:
                            ask(strip)
                        self.assertEqual(caught.exception.at, at)
                ask("a" * 20)

    def test_of_one_sign_alone(self):
        for text, bad in (("0,0>,by", "bc"), ("0,0>,0>,by", "cd"), ("0,0>,0>,0>,by", "dA")):
            for sign in bad:
                with self.assertRaises(NoStrip) as caught:
                    sign_table(read_machine(text), sign)
                self.assertEqual(caught.exception.at, 0)

    def test_the_signs_that_there_are(self):
        for text, strip in (("0,0>,by", "aa"), ("0,0>,0>,by", "abba"), ("0,0>,0>,0>,by", "cabcab")):
            for ask in self.askers(read_machine(text)):
                ask(strip)


class AskedAgain(unittest.TestCase):
    def askers(self, machine):
        reader = one_way(machine)
        table = table_of(machine, "ab")
        rows = [list(row) for row in machine]
        pairs = held(reader, least(reader))[1]
        paper = walk(machine, "ab").paper()
        return [
            (machine_of, rows), (machine_text, machine), (read_machine, machine_text(machine)), (signs_of, machine),
            (checked, machine, "ab"), (path, machine, "bb"), (holds, machine, "ab", paper), (still, 3),
            (sign_table, machine, "a"), (behind, table, table), (table_of, machine, "abb"), (said, machine, table),
            (turned, table), (mirrored, machine), (all_tables, machine), (products, machine), (beginning, machine, "ab"),
            (one_way, machine), (room_by, reader, "ab"), (word_by, reader, "ab"), (least, reader), (least_of, machine),
            (lead, reader, 1), (parting, reader, 0, 1), (held, reader, least(reader)), (compared, machine, machine),
            (shows_alike, reader, least(reader), pairs), (first_strip, machine, "out"), (stopping, machine),
            (swapped, machine), (either, machine, machine), (both, machine, machine), (turned_about, machine),
            (comes_round, machine, "a", "ab", "b"), (lambda *asked: walk(*asked).paper(), machine, "ab"),
        ]

    def test_nothing_handed_in_is_changed_and_the_same_is_told(self):
        askers = self.askers(EXAMPLE)
        before = copy.deepcopy([asked for function, *asked in askers])
        told = [function(*asked) for function, *asked in askers]
        kept = copy.deepcopy(told)
        self.assertEqual([function(*asked) for function, *asked in askers[::-1]], kept[::-1])
        self.assertEqual([asked for function, *asked in askers], before)
        self.assertEqual(told, kept)

    def test_lists_told_are_new(self):
        for function, *asked in self.askers(EXAMPLE):
            one, other = function(*asked), function(*asked)
            for first, second in zip(self.lists_in(one), self.lists_in(other), strict=True):
                self.assertIsNot(first, second)
                first.clear()
            self.assertEqual(function(*asked), other)

    def lists_in(self, told):
        if not isinstance(told, (list, tuple)):
            return []
        within = [part for thing in told for part in self.lists_in(thing)]
        return within + [told] if isinstance(told, list) else within

    def test_what_is_changed_after_it_was_handed_in(self):
        rows = [[1, [[0, 1], [1, -1]], "out"], [0, [[1, 1], [0, 1]], "by"]]
        machine = machine_of(rows)
        says = sayer(machine)
        rows[0][1][0][0] = 1
        rows[0][0] = "by"
        rows.pop()
        self.assertEqual(machine, EXAMPLE)
        self.assertEqual([says(strip) for strip in ("", "b", "bb")], ["by", "out", "ever"])


if __name__ == "__main__":
    unittest.main()
