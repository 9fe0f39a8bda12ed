import random
import unittest

from plainly import drawn_machine, drawn_machines, plain_word, strips

from striproam.errors import NoWord, TooMany, WayError
from striproam.least import least
from striproam.machines import machine_of, signs_of
from striproam.oneway import one_way
from striproam.stopping import first_strip, stopping
from striproam.texts import machine_text, read_machine
from striproam.walks import walk

EXAMPLE = read_machine("1,0>,1<,out 0,1>,0>,by")
WORDS = ("by", "out", "ever")
# Found among drawn machines: of 200 beginnings, of 201, and of few, but 60 or 61 rooms when they always stop.
BEGINNINGS_200 = read_machine(
    "0,1>,8>,3 by,4>,2<,out 6,4>,6<,3 8,3>,3>,5 7,1<,0>,8 5,7<,2>,7 4,2<,7<,0 out,6<,5<,4 by,3>,6>,0"
)
BEGINNINGS_201 = read_machine(
    "9,2>,6<,out 8,6>,4<,8 out,8<,4>,8 7,9>,3>,3 2,1<,2<,6 2,0<,9<,7 3,3>,2<,5 8,4<,0<,5 by,2<,8>,6 9,1>,9>,4"
)
STOPPING_60 = read_machine(
    "7,2<,5<,0<,5 out,5>,1<,5>,5 3,2>,6<,6>,2 5,5<,2>,3<,1 out,3>,5>,3>,5 4,0<,7>,4>,3 4,6<,2>,1>,by 0,1>,4>,1>,7"
)
STOPPING_61 = (
    "2,2>,1<,5>,by 2,4>,5<,5>,by 3,1>,2>,6>,out out,5>,1>,3>,by 4,3>,4>,6>,0 4,1<,3>,4>,out 1,6<,0<,6<,1",
    "0,0>,5>,2>,by 2,1<,2<,6>,3 by,2>,4>,1<,by by,4>,0>,0>,7 1,6>,2<,7>,6 out,7<,0<,2>,by 2,4>,5<,2<,4 4,3<,7<,3>,by",
)


def ring(rooms):
    """Lets by where the length is a multiple of rooms."""
    return machine_of([
        [0, [[(room + 1) % rooms, 1]], "by" if room == 0 else "out"] for room in range(rooms)
    ])


def counted_twice(on, back):
    """Lets by where the length is a multiple of both, but not 0: counts on, then back."""
    begin = [[0, [[1 + 1 % on, 1]], "out"]]
    there = [["out", [[1 + (room + 1) % on, 1]], on + 1 if room == 0 else "out"] for room in range(on)]
    home = [["by" if room == 0 else "out", [[on + 1 + (room + 1) % back, -1]], "out"] for room in range(back)]
    return machine_of(begin + there + home)


def plain_stopping(machine):
    """The rows as they are told, of the least form with out for ever."""
    rows, words = one_way(machine)
    rows, words = least((rows, tuple("out" if word == "ever" else word for word in words)))
    return [
        [0 if room == 0 else "out", [[there, 1] for there in row], word]
        for room, (row, word) in enumerate(zip(rows, words))
    ]


class FirstStrip(unittest.TestCase):
    def test_by_hand(self):
        self.assertEqual([first_strip(EXAMPLE, word) for word in WORDS], ["", "b", "bb"])
        machine = read_machine("0,0>,1>,2>,by 0,1>,1>,1>,out 0,2>,2>,2>,2")
        self.assertEqual([first_strip(machine, word) for word in WORDS], ["", "b", "c"])
        self.assertEqual([first_strip(ring(3), word) for word in WORDS], ["", "a", None])
        self.assertEqual([first_strip(counted_twice(4, 15), word) for word in WORDS], ["a" * 60, "", None])

    def test_none(self):
        for text, said in (("by,0>,by", "by"), ("out,0>,by", "out"), ("0,0>,0>,0", "ever")):
            for word in WORDS:
                self.assertEqual(first_strip(read_machine(text), word), "" if word == said else None)

    def test_of_several_the_first(self):
        # Shut out where there is a b behind an a: ab is first, not b, ba or aab.
        machine = read_machine("0,1>,0>,by 0,1>,2>,by 0,2>,2>,out")
        self.assertEqual(first_strip(machine, "out"), "ab")
        # Of ba, bb the one that is first by the alphabet.
        machine = read_machine("0,0>,1>,by 0,2>,2>,by 0,2>,2>,2")
        self.assertEqual(first_strip(machine, "ever"), "ba")

    def test_as_plainly_said(self):
        seen = set()
        for machine in drawn_machines(120, 3, seed=140):
            for word in WORDS:
                told = first_strip(machine, word)
                seen.add(told)
                if told is None:
                    said = [plain_word(machine, strip) for strip in strips(signs_of(machine), 5)]
                    self.assertNotIn(word, said)
                else:
                    self.assertIs(type(told), str)
                    for strip in strips(signs_of(machine), len(told)):
                        if plain_word(machine, strip) == word:
                            self.assertEqual(told, strip)
                            break
        self.assertLess({None, "", "a", "b", "c"}, seen)

    def test_another_word(self):
        for machine in (EXAMPLE, BEGINNINGS_201):
            for word in ("", "BY", "By", "by ", " out", "even", "never", "b", "none", "by out", "alike", "0"):
                with self.assertRaises(NoWord) as caught:
                    first_strip(machine, word)
                self.assertIsInstance(caught.exception, WayError)

    def test_too_many(self):
        for word in WORDS:
            self.assertRaises(TooMany, first_strip, BEGINNINGS_201, word)
            first_strip(BEGINNINGS_200, word)


class Stopping(unittest.TestCase):
    def test_row_by_row(self):
        # The least form says by, out, out, ever; with out for ever its last three rooms are one.
        self.assertEqual(machine_text(stopping(EXAMPLE)), "0,0>,1>,by out,1>,1>,out")
        self.assertEqual(stopping(read_machine("by,0>,out")), ((0, ((0, 1),), "by"),))
        self.assertEqual(machine_text(stopping(read_machine("0,0>,0>,0>,0"))), "0,0>,0>,0>,out")
        machine = read_machine("0,0>,1>,2>,by 0,1>,1>,0>,out 0,2>,0>,2>,2")
        self.assertEqual(machine_text(stopping(machine)), "0,0>,1>,2>,by out,1>,1>,0>,out out,2>,0>,2>,out")

    def test_out_for_ever_ahead_of_the_least_form(self):
        # Shut out and for ever have a room each in the least form and one room here.
        machine = read_machine("0,1>,2>,by 0,1>,1>,out 0,2>,2>,2")
        self.assertEqual(len(least(one_way(machine))[0]), 3)
        self.assertEqual(machine_text(stopping(machine)), "0,1>,1>,by out,1>,1>,out")

    def test_the_told_rows(self):
        for machine in drawn_machines(80, 4, seed=141):
            try:
                told = stopping(machine)
            except TooMany:
                continue
            self.assertEqual(told, machine_of(plain_stopping(machine)))
            self.assertEqual([row[0] for row in told], [0] + ["out"] * (len(told) - 1))
            self.assertEqual({type(row) for row in told} | {type(row[1]) for row in told}, {tuple})

    def test_always_stops_and_lets_by_the_same(self):
        seen = set()
        for machine in drawn_machines(80, 4, seed=142):
            try:
                told = stopping(machine)
            except TooMany:
                continue
            self.assertEqual(signs_of(told), signs_of(machine))
            for strip in strips(signs_of(machine), 5):
                word = plain_word(machine, strip)
                seen.add(word)
                ending = walk(told, strip)
                self.assertTrue(ending.stops())
                self.assertEqual(ending.says(), "by" if word == "by" else "out")
                self.assertEqual(ending.place, len(strip) + 1)
        self.assertEqual(seen, set(WORDS))

    def test_of_a_stopping_machine_itself(self):
        for machine in (EXAMPLE, ring(60), STOPPING_60):
            self.assertEqual(stopping(stopping(machine)), stopping(machine))

    def test_just_60_rooms(self):
        self.assertEqual(stopping(STOPPING_60), machine_of(plain_stopping(STOPPING_60)))
        self.assertEqual(len(stopping(STOPPING_60)), 60)
        told = stopping(ring(60))
        self.assertEqual([len(told), told[0], told[59]], [60, (0, ((1, 1),), "by"), ("out", ((0, 1),), "out")])
        told = stopping(counted_twice(7, 8))
        self.assertEqual([len(told), told[0], told[56]], [57, (0, ((1, 1),), "out"), ("out", ((1, 1),), "by")])

    def test_61_rooms(self):
        for machine in [read_machine(text) for text in STOPPING_61] + [counted_twice(4, 15), counted_twice(15, 4)]:
            self.assertEqual(len(plain_stopping(machine)), 61)
            with self.assertRaises(TooMany) as caught:
                stopping(machine)
            self.assertIsInstance(caught.exception, WayError)

    def test_too_many_beginnings(self):
        self.assertRaises(TooMany, stopping, BEGINNINGS_201)
        self.assertEqual(stopping(BEGINNINGS_200), machine_of(plain_stopping(BEGINNINGS_200)))
        self.assertRaises(TooMany, stopping, drawn_machine(random.Random(143), 60, 3, 10))


if __name__ == "__main__":
    unittest.main()
