"""What the document promises over the whole program: the same is told in all its ways."""

import random
import unittest

from plainly import drawn_machine, drawn_strip, plain_word, strips

from striproam.comparing import compared, held, shows_alike
from striproam.errors import TooMany
from striproam.least import lead, least, least_of, parting
from striproam.machines import machine_of, signs_of
from striproam.oneway import one_way, room_by, word_by
from striproam.tables import behind, said, sign_table, still, table_of
from striproam.walks import sayer, walk

LENGTHS = (0, 1, 2, 3, 7, 30, 150, 400)


def machines_read_one_way(many, most_rooms, seed, stops=30):
    """Drawn machines with their one-way machines, where they have one."""
    source = random.Random(seed)
    found = []
    while len(found) < many:
        machine = drawn_machine(source, source.randint(1, most_rooms), source.randint(1, 3), stops)
        try:
            found.append((machine, one_way(machine)))
        except TooMany:
            pass
    return found


def put_together(source, machine, strip):
    """The table of a strip, of two that stand side by side one made, whichever, until there is one."""
    tables = [still(len(machine))] + [sign_table(machine, sign) for sign in strip]
    while len(tables) > 1:
        at = source.randrange(len(tables) - 1)
        tables[at:at + 2] = [behind(tables[at], tables[at + 1])]
    return tables[0]


def renumbered(source, machine):
    """The same machine with its rooms, but for room 0, in another order."""
    numbers = [0] + source.sample(range(1, len(machine)), len(machine) - 1)

    def end(part):
        return part if isinstance(part, str) else numbers[part]

    rows = [None] * len(machine)
    for room, (left, cells, right) in enumerate(machine):
        rows[numbers[room]] = [end(left), [[numbers[into], step] for into, step in cells], end(right)]
    return machine_of(rows)


class OneWord(unittest.TestCase):
    def test_the_same_word_by_walk_table_one_way_machine_and_least_form(self):
        source = random.Random(130)
        told = []
        for machine, reader in machines_read_one_way(60, 7, 131):
            smallest = least_of(machine)
            for length in LENGTHS:
                strip = drawn_strip(source, machine, length)
                word = plain_word(machine, strip)
                self.assertEqual([
                    walk(machine, strip).says(), sayer(machine)(strip),
                    said(machine, table_of(machine, strip)), said(machine, put_together(source, machine, strip)),
                    word_by(reader, strip), word_by(smallest, strip),
                ], [word] * 6)
                told.append(word)
        for word in ("by", "out", "ever"):
            self.assertGreater(told.count(word), 40)

    def test_many_rooms(self):
        source = random.Random(132)
        tried = 0
        for number in range(40):
            # To the right mark and back to the left one but once, so that there are few beginnings.
            machine = machine_of([
                [room, [[source.randrange(30), 1]], source.randrange(30, 60)] for room in range(30)
            ] + [
                [source.choice(("by", "out")), [[source.randrange(30, 60), -1]], 0] for room in range(30)
            ])
            reader = one_way(machine)
            smallest = least(reader)
            tried += len(smallest[0]) > 5
            for length in LENGTHS:
                word = plain_word(machine, "a" * length)
                self.assertEqual([word_by(reader, "a" * length), word_by(smallest, "a" * length)], [word, word])
        self.assertGreater(tried, 10)


class LeastForms(unittest.TestCase):
    def test_the_same_for_machines_that_say_the_same(self):
        source = random.Random(133)
        for machine, reader in machines_read_one_way(60, 6, 134):
            # Two rooms more that are never come to, and all in another order.
            rows = list(machine) + [("by", machine[0][1], "out")] * 2
            other = renumbered(source, machine_of(rows))
            self.assertEqual(least_of(other), least(reader))
            word, pairs = compared(machine, other)
            self.assertEqual(word, "alike")
            self.assertTrue(shows_alike(reader, one_way(other), pairs))

    def test_each_room_with_its_strip_and_each_two_with_theirs(self):
        for machine, reader in machines_read_one_way(30, 4, 135):
            smallest = least(reader)
            rooms = range(len(smallest[0]))
            firsts = [lead(smallest, room) for room in rooms]
            self.assertEqual([room_by(smallest, strip) for strip in firsts], list(rooms))
            for one in rooms:
                for other in rooms:
                    strip = parting(smallest, one, other)
                    self.assertEqual(strip is None, one == other)
                    if strip is not None:
                        self.assertNotEqual(
                            plain_word(machine, firsts[one] + strip), plain_word(machine, firsts[other] + strip)
                        )

    def test_equal_just_where_told_alike(self):
        found = machines_read_one_way(60, 2, 136)
        alike = unlike = 0
        for one, reader in found:
            for other, second in found:
                if signs_of(one) == signs_of(other):
                    word, shown = held(reader, second)
                    self.assertEqual(word == "alike", least(reader) == least(second))
                    if word == "alike":
                        alike += 1
                    else:
                        unlike += 1
                        self.assertNotEqual(plain_word(one, shown), plain_word(other, shown))
                        for strip in strips(signs_of(one), min(len(shown), 4)):
                            if (len(strip), strip) < (len(shown), shown):
                                self.assertEqual(plain_word(one, strip), plain_word(other, strip))
        self.assertGreater(min(alike, unlike), 200)


if __name__ == "__main__":
    unittest.main()
