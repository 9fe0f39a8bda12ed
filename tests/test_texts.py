import itertools
import re
import unittest

from striproam.errors import NoMachine, NoStrip, NoText, WayError
from striproam.machines import machine_of
from striproam.texts import machine_text, read_machine

EXAMPLE = ((1, ((0, 1), (1, -1)), "out"), (0, ((1, 1), (0, 1)), "by"))
EXAMPLE_TEXT = "1,0>,1<,out 0,1>,0>,by"
GOOD = "by,0>,out"
# The document's form of a room, said a second time and in another way.
NUMBER = "(0|[1-9][0-9]?)"
ROOM = re.compile(f"(by|out|{NUMBER})(,{NUMBER}[<>]){{1,3}},(by|out|{NUMBER})", re.ASCII)
ALL_SIGNS = [chr(code) for code in range(ord(" "), ord("~") + 1)]


def varied(rooms, signs):
    """A machine in which every room's number and every word and step stands."""
    ends = ["by", "out", *range(rooms)]
    return machine_of([
        [
            ends[room % len(ends)],
            [[(room * 7 + sign) % rooms, 1 if (room + sign) % 2 else -1] for sign in range(signs)],
            ends[(room * 5 + 1) % len(ends)],
        ]
        for room in range(rooms)
    ])


class TextCase(unittest.TestCase):
    def no_text(self, text, at):
        with self.assertRaises(NoText) as caught:
            read_machine(text)
        self.assertEqual(caught.exception.at, at, text)

    def no_machine(self, text, part, room):
        with self.assertRaises(NoMachine) as caught:
            read_machine(text)
        self.assertEqual((caught.exception.part, caught.exception.room), (part, room), text)


class Written(TextCase):
    def test_the_example_both_ways(self):
        self.assertEqual(machine_text(EXAMPLE), EXAMPLE_TEXT)
        self.assertEqual(read_machine(EXAMPLE_TEXT), EXAMPLE)

    def test_least_machines(self):
        self.assertEqual(machine_text((("by", ((0, 1),), "out"),)), "by,0>,out")
        self.assertEqual(machine_text(((0, ((0, -1),), 0),)), "0,0<,0")
        self.assertEqual(read_machine("0,0<,0"), ((0, ((0, -1),), 0),))

    def test_written_and_read_back(self):
        for rooms in (*range(1, 13), 59, 60):
            for signs in (1, 2, 3):
                machine = varied(rooms, signs)
                text = machine_text(machine)
                self.assertEqual(read_machine(text), machine)
                self.assertEqual(machine_text(read_machine(text)), text)
                self.assertEqual(len(text.split(" ")), rooms)

    def test_numbers_of_two_figures(self):
        row = (59, ((58, -1), (10, 1), (9, 1)), 20)
        self.assertEqual(machine_text((row,) * 60), " ".join(["59,58<,10>,9>,20"] * 60))
        self.assertEqual(read_machine(" ".join(["59,58<,10>,9>,20"] * 60)), (row,) * 60)

    def test_what_is_read_is_made_of_tuples(self):
        machine = read_machine(EXAMPLE_TEXT)
        self.assertIs(type(machine), tuple)
        for row in machine:
            self.assertIs(type(row), tuple)
            self.assertIs(type(row[1]), tuple)
            for cell in row[1]:
                self.assertIs(type(cell), tuple)
                self.assertEqual([type(number) for number in cell], [int, int])
        self.assertEqual([type(row[0]) for row in machine], [int, int])
        self.assertEqual([type(row[2]) for row in machine], [str, str])

    def test_asked_twice_the_same_is_told(self):
        for again in range(2):
            self.assertEqual(machine_text(EXAMPLE), EXAMPLE_TEXT)
            self.assertEqual(read_machine(EXAMPLE_TEXT), EXAMPLE)
            self.no_text("", 0)


class NotWritten(TextCase):
    bad_words = (
        "by", "by,out", "by,,out", ",0>,out", "by,0>,", "by,0>", "0>,out", ",", ",,", ",,,",
        "by,0>,0>,0>,0>,out", "by,0>,0>,0>,0>,0>,out",
        "00,0>,out", "01,0>,out", "by,00>,out", "by,01<,out", "by,0>,00", "by,0>,01",
        "100,0>,out", "by,100>,out", "by,0>,100", "000,0>,out", "by,0>,010",
        "by,>,out", "by,<,out", "by,0,out", "by,0>,0,out", "by,0>>,out", "by,0><,out", "by,>0,out", "by,0=,out",
        "by,by>,out", "by,by,out", "by,out<,out",
        "ever,0>,out", "by,0>,ever", "By,0>,out", "by,0>,OUT", "b,0>,out", "by,0>,byout", "no,0>,out",
        "-1,0>,out", "by,-1>,out", "by,0>,-1", "+1,0>,out", "by,0>,1_0", "1_,0>,out", "by,0>,0x",
        "by;0>,out", "by,0>,out.", "(by,0>,out)", "by,0>,out,", ",by,0>,out", "\"by,0>,out\"", "by,0>,ou", "by\t,0>,out",
    )

    def test_the_text_without_signs_is_one_word_that_is_none(self):
        self.no_text("", 0)

    def test_blanks(self):
        self.no_text(" ", 0)
        self.no_text("  ", 0)
        self.no_text(" " + GOOD, 0)
        self.no_text("  " + GOOD, 0)
        self.no_text(GOOD + " ", 1)
        self.no_text(GOOD + "  ", 1)
        self.no_text(GOOD + "  " + GOOD, 1)
        self.no_text(GOOD + " " + GOOD + "  " + GOOD, 2)
        self.no_text(GOOD + " " + GOOD + " ", 2)
        self.no_text("by, 0>,out", 0)
        self.no_text("by,0> ,out", 0)

    def test_each_bad_word_in_each_place(self):
        for word in self.bad_words:
            self.assertIsNone(ROOM.fullmatch(word), word)
            for words in range(1, 5):
                for at in range(words):
                    text = [GOOD] * words
                    text[at] = word
                    self.no_text(" ".join(text), at)

    def test_the_first_bad_word_is_told(self):
        for one, other in itertools.combinations(range(6), 2):
            words = [GOOD] * 6
            words[one] = "by,01>,out"
            words[other] = "by"
            self.no_text(" ".join(words), one)

    def test_other_blanks_and_figures_are_signs_that_belong_nowhere(self):
        for text in ("by,0>,out\nby,0>,out", "by,0>,out\n", "\tby,0>,out", "by,\u0661>,out", "\u00b2,0>,out"):
            self.no_text(text, 0)

    def test_far_behind(self):
        for good in (59, 60, 61, 300, 1000):
            self.no_text(" ".join([GOOD] * good + ["by,0>"]), good)

    def test_no_text_is_no_other_refusal(self):
        with self.assertRaises(NoText) as caught:
            read_machine("")
        self.assertIsInstance(caught.exception, WayError)
        self.assertNotIsInstance(caught.exception, (NoMachine, NoStrip))


class WellWritten(TextCase):
    """One word, held against the other way to say the form."""

    def hold(self, word):
        if ROOM.fullmatch(word) is None:
            self.no_text(word, 0)
            return True
        try:
            machine = read_machine(word)
        except NoMachine:
            return False
        self.assertEqual(machine_text(machine), word)
        return False

    def test_words_put_together_of_parts(self):
        ends = ("by", "out", "0", "9", "10", "99", "00", "07", "100", "", "0>", "ever")
        cells = ("0>", "0<", "10<", "99>", "00>", "07<", "100>", "", ">", "0", "by", "by>")
        refused = 0
        for left, right in itertools.product(ends, ends):
            for count in range(3):
                for chosen in itertools.product(cells, repeat=count):
                    refused += self.hold(",".join([left, *chosen, right]))
        self.assertGreater(refused, 0)

    def test_one_sign_changed_put_in_or_left_out(self):
        for word in ("by,0>,out", "0,0<,0>,0", "10,0>,10<,0>,by"):
            for at in range(len(word) + 1):
                self.hold(word[:at] + word[at + 1:])
                for sign in ALL_SIGNS:
                    if sign != " ":
                        self.hold(word[:at] + sign + word[at:])
                        self.hold(word[:at] + sign + word[at + 1:])

    def test_every_number(self):
        numbers = [str(number) for number in range(1100)] + [f"0{number}" for number in range(110)]
        for number in numbers:
            self.hold(f"{number},0>,by")
            self.hold(f"by,{number}<,by")
            self.hold(f"by,0>,{number}")


class WrittenButNoMachine(TextCase):
    def test_each_part(self):
        self.no_machine("1,0>,by", "left", 0)
        self.no_machine("by,1>,by", "cell", 0)
        self.no_machine("by,0>,1", "right", 0)
        self.no_machine("by,0>,by 2,0>,by", "left", 1)
        self.no_machine("by,0>,by by,2<,by", "cell", 1)
        self.no_machine("by,0>,0>,by by,0>,99<,by", "cell", 1)
        self.no_machine("by,0>,by by,0>,60", "right", 1)

    def test_not_as_many_cells(self):
        self.no_machine("by,0>,by by,0>,0>,by", "cells", 1)
        self.no_machine("by,0>,0>,by by,0>,0>,by by,0>,by", "cells", 2)
        self.no_machine("by,0>,0>,0>,by 9,0>,0>,by", "cells", 1)

    def test_too_many_rooms(self):
        self.assertEqual(len(read_machine(" ".join([GOOD] * 60))), 60)
        for rooms in (61, 62, 400, 1000):
            self.no_machine(" ".join([GOOD] * rooms), "rooms", rooms)

    def test_the_number_of_rooms_is_no_room(self):
        self.no_machine(" ".join(["60,0>,by"] * 60), "left", 0)
        self.no_machine(" ".join([GOOD] * 59 + ["by,60>,by"]), "cell", 59)

    def test_of_several_faults_the_first(self):
        self.no_machine("by,9>,9 9,0>,0>,by", "cell", 0)
        self.no_machine("9,9>,9", "left", 0)
        self.no_machine("by,0>,9 9,9>,9", "right", 0)

    def test_no_text_comes_ahead_of_no_machine(self):
        for bad in ("9,0>,by", "by,9>,by", "by,0>,9"):
            self.no_text(bad + " by,00>,by", 1)
            self.no_text(bad + " " + GOOD + " ", 2)
        self.no_text("by,0>,by by,0>,0>,by by", 2)
        self.no_text(" ".join([GOOD] * 61 + ["no"]), 61)
        self.no_text("9,01>,by", 0)


if __name__ == "__main__":
    unittest.main()
