import random
import unittest

from plainly import (
    drawn_machine, drawn_machines, drawn_reader, drawn_strip, plain_beginning, plain_one_way, plain_room, plain_word,
    strips,
)

from striproam.errors import NoStrip, TooMany, WayError
from striproam.machines import machine_of, signs_of
from striproam.oneway import beginning, one_way, room_by, word_by
from striproam.texts import read_machine
from striproam.walks import walk

EXAMPLE = read_machine("1,0>,1<,out 0,1>,0>,by")
EACH_KIND = read_machine("1,0>,2<,3 by,1>,3<,out out,1<,2>,by 3,3<,3<,0")
# Found among drawn machines; how many beginnings each has is seen again here.
OF_200 = (
    "2,0>,6>,0>,2 by,5<,4>,1>,5 1,0>,4<,0>,3 0,6>,5>,5<,by 1,3<,1<,2<,1 out,5>,6>,1<,1 2,3>,1>,3>,4",
    "0,1>,8>,3 by,4>,2<,out 6,4>,6<,3 8,3>,3>,5 7,1<,0>,8 5,7<,2>,7 4,2<,7<,0 out,6<,5<,4 by,3>,6>,0",
)
OF_201 = (
    "2,4>,5>,3<,6 2,6>,0>,0>,by 6,7<,6>,1>,5 7,4<,4<,0>,out by,5>,3<,7<,2 6,4>,1>,2>,0 2,6<,0>,1>,4 6,3>,1<,5<,3",
    "9,2>,6<,out 8,6>,4<,8 out,8<,4>,8 7,9>,3>,3 2,1<,2<,6 2,0<,9<,7 3,3>,2<,5 8,4<,0<,5 by,2<,8>,6 9,1>,9>,4",
)


def two_rings(on, back, lefts=None):
    """On in a ring of rooms, back in another; the beginnings come round with both, the one without signs too."""
    ring = [[(room + 1) % on, [[(room + 1) % on, 1]], "by"] for room in range(on)]
    other = [["out", [[on + (room + 1) % back, -1]], "out"] for room in range(back)]
    other[0][0] = "by"
    rows = ring + other
    for room, left in (lefts or {}).items():
        rows[room][0] = left
    return machine_of(rows)


class Beginning(unittest.TestCase):
    def test_without_signs(self):
        self.assertEqual(beginning(EXAMPLE, ""), (1, (1, 0)))
        self.assertEqual(beginning(EACH_KIND, ""), (1, (1, "by", "out", 3)))
        self.assertEqual(beginning(read_machine("by,0>,out"), ""), ("by", ("by",)))
        self.assertEqual(beginning(read_machine("out,0>,by 0,1<,1"), ""), ("out", ("out", 0)))

    def test_one_sign(self):
        self.assertEqual(beginning(EXAMPLE, "a"), (1, (0, 1)))
        # In room 0 it goes back from b in room 1, which the mark turns into room 0 again.
        self.assertEqual(beginning(EXAMPLE, "b"), (0, ("ever", 0)))

    def test_each_kind_first_and_back(self):
        # On a rooms 0 and 1 go on, room 2 goes back in room 1 and is let by, room 3 goes round from mark to sign.
        self.assertEqual(beginning(EACH_KIND, "a"), (1, (0, 1, "by", "ever")))
        # On b room 0 goes back in room 2 and is shut out, room 1 goes back in room 3, room 2 goes on.
        self.assertEqual(beginning(EACH_KIND, "b"), ("ever", ("out", "ever", 2, "ever")))
        self.assertEqual(beginning(EACH_KIND, "aa"), (1, (0, 1, 1, "ever")))
        self.assertEqual(beginning(EACH_KIND, "ab"), ("ever", ("by", "ever", 2, "ever")))
        for word in ("by", "out"):
            machine = read_machine(f"0,0>,1<,0 {word},1>,1>,0")
            self.assertEqual(beginning(machine, "a"), (0, (0, 1)))
            self.assertEqual(beginning(machine, "b"), (word, (word, 1)))
            self.assertEqual(beginning(machine, "aab"), (1, (1, 1)))
            self.assertEqual(beginning(machine, "baa"), (word, (0, 1)))

    def test_the_right_mark_tells_nothing(self):
        for strip in strips(2, 4):
            told = beginning(EXAMPLE, strip)
            for rights in (("by", "by"), ("out", 0), (1, 1)):
                rows = [(left, cells, right) for (left, cells, old), right in zip(EXAMPLE, rights)]
                self.assertEqual(beginning(machine_of(rows), strip), told)

    def test_as_plainly_said(self):
        seen_first, seen_back = set(), set()
        for machine in drawn_machines(120, 5, seed=90):
            for strip in strips(signs_of(machine), 4):
                told = beginning(machine, strip)
                self.assertEqual(told, plain_beginning(machine, strip))
                seen_first.add(told[0])
                seen_back.update(told[1])
        self.assertEqual(seen_first, {0, 1, 2, 3, 4, "by", "out", "ever"})
        self.assertEqual(seen_back, {0, 1, 2, 3, 4, "by", "out", "ever"})

    def test_many_rooms_and_signs(self):
        source = random.Random(91)
        for rooms, length in ((1, 400), (2, 400), (7, 150), (60, 30), (60, 61)):
            for signs in (1, 2, 3):
                machine = drawn_machine(source, rooms, signs, 10)
                strip = drawn_strip(source, machine, length)
                self.assertEqual(beginning(machine, strip), plain_beginning(machine, strip))

    def test_kinds(self):
        for machine in (EXAMPLE, EACH_KIND):
            for strip in strips(2, 5):
                told = beginning(machine, strip)
                self.assertEqual([type(told), len(told), type(told[1])], [tuple, 2, tuple])
                self.assertEqual(len(told[1]), len(machine))
                for part in (told[0], *told[1]):
                    self.assertIn(type(part), (int, str))

    def test_asked_again_the_same(self):
        for machine in drawn_machines(20, 4, seed=92):
            asked = [beginning(machine, strip) for strip in strips(signs_of(machine), 3)]
            self.assertEqual([beginning(machine, strip) for strip in strips(signs_of(machine), 3)], asked)

    def test_another_sign(self):
        for machine, strip, at in (
            (EXAMPLE, "c", 0), (EXAMPLE, "abca", 2), (EXAMPLE, "ab cc", 2), (read_machine("by,0>,by"), "aabac", 2),
            (read_machine("by,0>,0>,0>,by"), "abcABC", 3), (EXAMPLE, "a" * 399 + "-", 399),
        ):
            with self.assertRaises(NoStrip) as caught:
                beginning(machine, strip)
            self.assertEqual(caught.exception.at, at)


class OneWay(unittest.TestCase):
    def test_by_hand(self):
        self.assertEqual(one_way(read_machine("0,0>,by")), (((0,),), ("by",)))
        self.assertEqual(one_way(read_machine("out,0>,by")), (((1,), (1,)), ("out", "out")))
        self.assertEqual(one_way(read_machine("0,0>,0<,by")), (((0, 1), (2, 1), (2, 1)), ("by", "ever", "ever")))

    def test_an_example_room_by_room(self):
        begun = [
            (1, (1, 0)), (1, (0, 1)), (0, ("ever", 0)), (0, (0, 0)), (0, (0, 1)),
            ("ever", ("ever", 0)), ("ever", (0, 1)), ("ever", (0, 0)),
        ]
        firsts = ["", "a", "b", "ab", "ba", "bb", "bba", "bbab"]
        self.assertEqual([beginning(EXAMPLE, strip) for strip in firsts], begun)
        self.assertEqual(one_way(EXAMPLE), (
            ((1, 2), (1, 3), (4, 5), (4, 5), (4, 3), (6, 5), (6, 7), (6, 5)),
            ("by", "by", "out", "out", "out", "ever", "ever", "ever"),
        ))

    def test_rooms_that_say_the_same_are_not_put_together(self):
        # (0, (0, 0)), (0, (0, 1)) of a and (1, (1, 1)) of b, then (1, (0, 1)) of ba.
        told = one_way(read_machine("0,0>,1>,by 0,1>,1>,by"))
        self.assertEqual(told, (((1, 2), (1, 2), (3, 2), (3, 2)), ("by", "by", "by", "by")))

    def test_as_plainly_said(self):
        told_words = set()
        tried = 0
        for machine in drawn_machines(150, 4, seed=93):
            said = plain_one_way(machine, 120)
            if said is not None:
                tried += 1
                self.assertEqual(one_way(machine), said)
                told_words.update(said[1])
        self.assertGreater(tried, 90)
        self.assertEqual(told_words, {"by", "out", "ever"})

    def test_what_the_walk_says(self):
        for machine in drawn_machines(60, 4, seed=94):
            try:
                told = one_way(machine)
            except TooMany:
                continue
            for strip in strips(signs_of(machine), 5):
                word = word_by(told, strip)
                self.assertEqual(word, plain_word(machine, strip))
                self.assertEqual(word, walk(machine, strip).says())

    def test_strips_of_one_room_have_one_beginning(self):
        for machine in drawn_machines(40, 3, seed=95):
            told = one_way(machine)
            begun = {}
            for strip in strips(signs_of(machine), 4):
                room = room_by(told, strip)
                self.assertEqual(begun.setdefault(room, beginning(machine, strip)), beginning(machine, strip))
            self.assertEqual(len(set(begun.values())), len(begun))

    def test_numbered_as_first_come_to(self):
        for machine in drawn_machines(60, 4, seed=96):
            try:
                rows, words = one_way(machine)
            except TooMany:
                continue
            self.assertEqual(len(rows), len(words))
            known = 1
            for row in rows:
                self.assertEqual(len(row), signs_of(machine))
                for room in row:
                    self.assertLessEqual(room, known)
                    known = max(known, room + 1)
            self.assertEqual(known, len(rows))

    def test_two_rings(self):
        self.assertEqual(one_way(two_rings(2, 3)), (((1,), (2,), (3,), (4,), (5,), (0,)), ("by",) * 6))
        # What room 1 does at the left mark tells the strip without signs from all others.
        self.assertEqual(one_way(two_rings(2, 3, {1: "by"})), (
            ((1,), (2,), (3,), (4,), (5,), (6,), (1,)), ("by",) * 7,
        ))

    def test_just_200(self):
        for machine in [read_machine(text) for text in OF_200] + [two_rings(8, 25), two_rings(25, 8)]:
            told = one_way(machine)
            self.assertEqual([len(told[0]), len(told[1])], [200, 200])
            self.assertEqual(told, plain_one_way(machine, 200))

    def test_201(self):
        for machine in [read_machine(text) for text in OF_201] + [two_rings(8, 25, {3: "by"}), two_rings(25, 8, {2: 2})]:
            self.assertEqual(len(plain_one_way(machine, 201)[0]), 201)
            with self.assertRaises(TooMany) as caught:
                one_way(machine)
            self.assertIsInstance(caught.exception, WayError)
            self.assertRaises(TooMany, one_way, machine)

    def test_many_more_than_200(self):
        source = random.Random(97)
        for machine in [drawn_machine(source, 60, 3, 10) for number in range(5)] + [two_rings(29, 31)]:
            self.assertRaises(TooMany, one_way, machine)

    def test_kinds(self):
        for machine in (EXAMPLE, EACH_KIND, two_rings(2, 3)):
            rows, words = one_way(machine)
            self.assertEqual([type(one_way(machine)), type(rows), type(words)], [tuple] * 3)
            self.assertEqual({type(row) for row in rows}, {tuple})
            self.assertEqual({type(room) for row in rows for room in row}, {int})
            self.assertLessEqual(set(words), {"by", "out", "ever"})
            self.assertEqual(one_way(machine), (rows, words))


class Reading(unittest.TestCase):
    def test_by_hand(self):
        reader = (((1, 0), (1, 2), (0, 0)), ("by", "out", "ever"))
        for strip, room in (("", 0), ("a", 1), ("b", 0), ("ab", 2), ("aab", 2), ("abb", 0), ("aba", 0), ("abab", 0)):
            self.assertEqual(room_by(reader, strip), room)
            self.assertEqual(word_by(reader, strip), ("by", "out", "ever")[room])
        alone = (((0,),), ("ever",))
        self.assertEqual([room_by(alone, "a" * many) for many in (0, 1, 400)], [0, 0, 0])
        self.assertEqual([word_by(alone, "a" * many) for many in (0, 1, 400)], ["ever"] * 3)

    def test_made_by_hand_with_200_rooms(self):
        ring = (tuple(((room + 1) % 200, room, 0) for room in range(200)), ("out",) * 199 + ("by",))
        self.assertEqual(room_by(ring, "a" * 199), 199)
        self.assertEqual(word_by(ring, "a" * 199), "by")
        self.assertEqual(room_by(ring, "a" * 399 + "b"), 199)
        self.assertEqual(room_by(ring, "a" * 399 + "ca"), 1)
        self.assertEqual(room_by(ring, "ba" * 1000), 0)

    def test_as_plainly_said(self):
        source = random.Random(98)
        for number in range(60):
            signs = source.randint(1, 3)
            reader = drawn_reader(source, source.randint(1, 9), signs)
            for length in (0, 1, 2, 3, 10, 100, 400):
                strip = "".join(source.choice("abc"[:signs]) for sign in range(length))
                self.assertEqual(room_by(reader, strip), plain_room(reader, strip))
                self.assertEqual(word_by(reader, strip), reader[1][plain_room(reader, strip)])

    def test_told_by_the_program(self):
        told = one_way(EXAMPLE)
        self.assertEqual([room_by(told, strip) for strip in ("", "a", "b", "bbab", "bbaba")], [0, 1, 2, 7, 6])
        self.assertEqual([word_by(told, strip) for strip in ("", "aaa", "ab", "bb")], ["by", "by", "out", "ever"])

    def test_kinds(self):
        for strip in ("", "a", "bb"):
            self.assertIs(type(room_by(one_way(EXAMPLE), strip)), int)
            self.assertIs(type(word_by(one_way(EXAMPLE), strip)), str)

    def test_another_sign(self):
        one_sign = (((0,),), ("by",))
        two_signs = (((0, 1), (1, 0)), ("by", "out"))
        three_signs = (((0, 0, 0),), ("ever",))
        for reader, strip, at in (
            (one_sign, "b", 0), (one_sign, "aab", 2), (one_sign, "aacb", 2), (two_signs, "c", 0), (two_signs, "abc", 2),
            (two_signs, "abdc", 2), (three_signs, "abcd", 3), (three_signs, "A", 0), (three_signs, "ab ", 2),
            (one_way(EXAMPLE), "babac", 4), (one_way(two_rings(2, 3)), "ab", 1), (two_signs, "a" * 399 + "-", 399),
        ):
            for asked in (room_by, word_by):
                with self.assertRaises(NoStrip) as caught:
                    asked(reader, strip)
                self.assertEqual(caught.exception.at, at)


if __name__ == "__main__":
    unittest.main()
