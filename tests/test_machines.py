import copy
import itertools
import unittest

from striproam.errors import (
    NoBorder,
    NoLine,
    NoMachine,
    NoName,
    NoStrip,
    NoText,
    NothingDone,
    NotLike,
    NoWord,
    TooMany,
    WayError,
)
from striproam.machines import checked, machine_of, signs_of

OTHERS = (NoText, NoStrip, NoName, NoLine, TooMany, NotLike, NoWord, NoBorder, NothingDone)
HUGE = int("9" * 60)
EXAMPLE = ((1, ((0, 1), (1, -1)), "out"), (0, ((1, 1), (0, 1)), "by"))


def plain(rooms, signs=1):
    return [["by", [[0, 1] for sign in range(signs)], "out"] for room in range(rooms)]


def shaped(value, kinds):
    """The rows with, for each depth, the told kind (list or tuple)."""
    rows, row, cells, cell = kinds
    return rows([
        row([left, cells([cell(pair) for pair in pairs]), right])
        for left, pairs, right in value
    ])


class MachineCase(unittest.TestCase):
    def refused(self, rows, part, room):
        with self.assertRaises(NoMachine) as caught:
            machine_of(rows)
        self.assertEqual((caught.exception.part, caught.exception.room), (part, room))

    def assert_same_with_kinds(self, told, asked):
        self.assertEqual(told, asked)
        self.assertIs(type(told), type(asked))
        if isinstance(told, tuple):
            for one, other in zip(told, asked):
                self.assert_same_with_kinds(one, other)


class Made(MachineCase):
    def test_tuples_are_told_whatever_lists_and_tuples_came(self):
        for kinds in itertools.product((list, tuple), repeat=4):
            with self.subTest(kinds=kinds):
                self.assert_same_with_kinds(machine_of(shaped(EXAMPLE, kinds)), EXAMPLE)

    def test_lists_and_tuples_may_be_mixed(self):
        rows = [(1, [(0, 1), [1, -1]], "out"), [0, ([1, 1], (0, 1)), "by"]]
        self.assert_same_with_kinds(machine_of(rows), EXAMPLE)

    def test_one_to_sixty_rooms(self):
        for rooms in range(1, 61):
            row = ("by", ((0, 1),), "out")
            self.assertEqual(machine_of(plain(rooms)), (row,) * rooms)

    def test_the_last_room_may_be_named_anywhere(self):
        for rooms in (1, 2, 10, 60):
            last = rooms - 1
            row = (last, ((last, -1), (last, 1)), last)
            self.assertEqual(machine_of([row] * rooms), (row,) * rooms)

    def test_every_word_and_step_is_kept_in_its_place(self):
        ends = ("by", "out", 0, 1)
        cells = ((0, 1), (0, -1), (1, 1), (1, -1))
        for left, one, two, right in itertools.product(ends, cells, cells, ends):
            rows = [[left, [one, two], right], [right, [two, one], left]]
            told = ((left, (one, two), right), (right, (two, one), left))
            self.assertEqual(machine_of(rows), told)

    def test_a_machine_can_be_handed_in_again(self):
        self.assertEqual(machine_of(machine_of(EXAMPLE)), EXAMPLE)


class Refused(MachineCase):
    def test_how_many_rooms(self):
        self.refused([], "rooms", 0)
        self.refused((), "rooms", 0)
        for rooms in (61, 62, 100, 400, 1000):
            self.refused(plain(rooms), "rooms", rooms)

    def test_rooms_come_ahead_of_all_else(self):
        self.refused([["no", [], "no"]] * 61, "rooms", 61)

    def test_how_many_cells(self):
        for room in (0, 1, 2):
            for cells in (0, 4, 5, 400):
                rows = plain(3)
                rows[room][1] = [[0, 1]] * cells
                self.refused(rows, "cells", room)

    def test_every_room_with_no_cell_or_four(self):
        for rooms in (1, 2, 60):
            self.refused(plain(rooms, 0), "cells", 0)
            self.refused(plain(rooms, 4), "cells", 0)

    def test_not_as_many_cells_as_room_0(self):
        for first, other in itertools.permutations((1, 2, 3), 2):
            for room in (1, 2):
                rows = plain(3, first)
                rows[room][1] = [[0, 1]] * other
                self.refused(rows, "cells", room)

    def test_left_and_right(self):
        bad = (-1, -2, -3, 3, 4, 60, HUGE, -HUGE, "", "ever", "By", "OUT", "by ", " out", "b", "byout", "0", "1")
        for room in (0, 1, 2):
            for value in bad:
                for place, part in ((0, "left"), (2, "right")):
                    with self.subTest(room=room, value=value, part=part):
                        rows = plain(3)
                        rows[room][place] = value
                        self.refused(rows, part, room)

    def test_the_number_of_rooms_is_no_room(self):
        for rooms in (1, 2, 59, 60):
            for place, part in ((0, "left"), (2, "right")):
                rows = plain(rooms)
                rows[rooms - 1][place] = rooms
                self.refused(rows, part, rooms - 1)
            rows = plain(rooms)
            rows[rooms - 1][1][0][0] = rooms
            self.refused(rows, "cell", rooms - 1)

    def test_a_truth_is_no_whole_number(self):
        for truth in (True, False):
            self.refused([["by", [[0, 1]], "by"], [truth, [[0, 1]], "by"]], "left", 1)
            self.refused([["by", [[0, 1]], "by"], ["by", [[0, 1]], truth]], "right", 1)
            self.refused([["by", [[0, 1]], "by"], ["by", [[truth, 1]], "by"]], "cell", 1)
            self.refused([["by", [[0, 1]], "by"], ["by", [[0, truth]], "by"]], "cell", 1)

    def test_a_cell(self):
        rooms = [[room, step] for room in (-1, -3, 3, 4, HUGE, -HUGE) for step in (1, -1)]
        steps = [[room, step] for room in (0, 2) for step in (0, 2, -2, 3, HUGE, -HUGE)]
        for cell in rooms + steps:
            for room in (0, 1, 2):
                for signs in (1, 2, 3):
                    for sign in range(signs):
                        rows = plain(3, signs)
                        rows[room][1][sign] = cell
                        self.refused(rows, "cell", room)

    def test_no_machine_is_none_of_the_other_refusals(self):
        with self.assertRaises(NoMachine) as caught:
            machine_of([])
        self.assertIsInstance(caught.exception, WayError)
        self.assertIsInstance(caught.exception, ValueError)
        self.assertNotIsInstance(caught.exception, OTHERS)


class FirstFault(MachineCase):
    """Every choice of faults in two rooms: the first in the told order is told."""

    order = ("cells", "left", "cell", "right")

    def row_with(self, faults):
        cell = [0, 0] if "cell" in faults else [0, 1]
        cells = [[0, 1], cell, [0, 1]]
        return [
            "" if "left" in faults else 0,
            cells + [cell] if "cells" in faults else cells,
            2 if "right" in faults else "out",
        ]

    def test_over_two_rooms(self):
        choices = [
            [part for part, chosen in zip(self.order, chosen_parts) if chosen]
            for chosen_parts in itertools.product((False, True), repeat=4)
        ]
        for here, there in itertools.product(choices, choices):
            rows = [self.row_with(here), self.row_with(there)]
            with self.subTest(here=here, there=there):
                if here:
                    self.refused(rows, here[0], 0)
                elif there:
                    self.refused(rows, there[0], 1)
                else:
                    self.assertEqual(len(machine_of(rows)), 2)

    def test_a_fault_of_a_late_room_comes_behind_those_of_all_earlier_ones(self):
        rows = plain(60)
        rows[59][1] = []
        self.refused(rows, "cells", 59)
        rows[58][2] = 60
        self.refused(rows, "right", 58)
        rows[7][1][0] = (0, 2)
        self.refused(rows, "cell", 7)


class LeftAsItWas(MachineCase):
    def test_rows_stay_as_they_were(self):
        for rows in (shaped(EXAMPLE, (list,) * 4), [], plain(61), plain(2, 4), [["no", [[0, 1]], "by"]]):
            before = copy.deepcopy(rows)
            try:
                machine_of(rows)
            except NoMachine:
                pass
            self.assertEqual(rows, before)

    def test_later_changes_change_nothing_told(self):
        rows = shaped(EXAMPLE, (list,) * 4)
        told = machine_of(rows)
        rows[0][1][0][0] = 1
        rows[0][1][1][1] = 1
        rows[0][1].append([0, 1])
        rows[1][0] = "by"
        rows[1][2] = "out"
        rows.append(["by", [[0, 1]], "by"])
        self.assertEqual(told, EXAMPLE)

    def test_lists_within_tuples_may_change_later_too(self):
        cell = [0, 1]
        cells = [cell]
        told = machine_of((("by", cells, "out"),))
        cell[1] = -1
        cells.append([0, 1])
        self.assertEqual(told, (("by", ((0, 1),), "out"),))

    def test_asked_twice_the_same_is_told(self):
        rows = shaped(EXAMPLE, (list,) * 4)
        self.assertEqual(machine_of(rows), EXAMPLE)
        self.refused([], "rooms", 0)
        self.refused([], "rooms", 0)
        self.assertEqual(machine_of(rows), EXAMPLE)
        self.assertEqual(signs_of(EXAMPLE), signs_of(EXAMPLE))

    def test_what_was_refused_can_be_mended_and_asked_again(self):
        rows = plain(1)
        rows[0][0] = 1
        self.refused(rows, "left", 0)
        rows[0][0] = 0
        self.assertEqual(machine_of(rows), ((0, ((0, 1),), "out"),))


class Signs(unittest.TestCase):
    def test_one_two_and_three(self):
        for signs in (1, 2, 3):
            for rooms in (1, 2, 60):
                self.assertEqual(signs_of(machine_of(plain(rooms, signs))), signs)


class Strips(unittest.TestCase):
    def refused(self, machine, strip, at):
        with self.assertRaises(NoStrip) as caught:
            checked(machine, strip)
        self.assertEqual(caught.exception.at, at)

    def setUp(self):
        self.machines = {signs: machine_of(plain(2, signs)) for signs in (1, 2, 3)}

    def test_every_short_strip_is_told_itself(self):
        for signs, machine in self.machines.items():
            for length in range(6):
                for letters in itertools.product("abc"[:signs], repeat=length):
                    strip = "".join(letters)
                    self.assertEqual(checked(machine, strip), strip)
                    self.assertIs(type(checked(machine, strip)), str)

    def test_the_strip_without_signs(self):
        for machine in self.machines.values():
            self.assertEqual(checked(machine, ""), "")

    def test_long_strips(self):
        for length in (400, 401, 5000):
            self.assertEqual(checked(self.machines[3], "c" * length), "c" * length)
            self.refused(self.machines[2], "ab" * length + "c", 2 * length)

    def test_each_other_sign_in_each_place(self):
        for signs, machine in self.machines.items():
            known = "abc"[:signs]
            for code in range(ord(" "), ord("~") + 1):
                sign = chr(code)
                if sign in known:
                    continue
                for at in range(4):
                    self.refused(machine, known[-1] * at + sign + "a", at)

    def test_the_first_such_is_told(self):
        self.refused(self.machines[1], "aabac", 2)
        self.refused(self.machines[2], "abcA 1", 2)
        self.refused(self.machines[3], "abcA 1", 3)
        self.refused(self.machines[3], " abc", 0)
        self.refused(self.machines[3], "abc ", 3)
        self.refused(self.machines[3], "-", 0)

    def test_asked_twice_the_same_is_told(self):
        self.refused(self.machines[1], "ab", 1)
        self.refused(self.machines[1], "ab", 1)
        self.assertEqual(checked(self.machines[1], "aa"), "aa")
        self.assertEqual(checked(self.machines[1], "aa"), "aa")

    def test_no_strip_is_no_other_refusal(self):
        with self.assertRaises(NoStrip) as caught:
            checked(self.machines[1], "b")
        self.assertIsInstance(caught.exception, WayError)
        self.assertNotIsInstance(caught.exception, (NoMachine, NoText, NoName, NoLine, TooMany, NoWord))


if __name__ == "__main__":
    unittest.main()
