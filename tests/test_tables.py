import itertools
import random
import unittest

from plainly import (
    drawn_machine,
    drawn_machines,
    drawn_strip,
    drawn_table,
    plain_table,
    plain_word,
    strips,
)

from striproam.errors import NoStrip
from striproam.machines import machine_of, signs_of
from striproam.tables import behind, mirrored, said, sign_table, still, table_of, turned
from striproam.texts import read_machine
from striproam.walks import walk

EXAMPLE = read_machine("1,0>,1<,out 0,1>,0>,by")
ON, BACK = (1, 0), (-1, 0)


def one_room_tables():
    things = (ON, BACK, None)
    return [((fore,), (aft,)) for fore in things for aft in things]


class TableCase(unittest.TestCase):
    def is_table(self, table, rooms):
        self.assertIs(type(table), tuple)
        self.assertEqual([len(end) for end in table], [rooms, rooms])
        for end in table:
            self.assertIs(type(end), tuple)
            for thing in end:
                if thing is not None:
                    self.assertIs(type(thing), tuple)
                    self.assertEqual([type(number) for number in thing], [int, int])
                    self.assertIn(thing[0], (1, -1))
                    self.assertIn(thing[1], range(rooms))


class Strips(TableCase):
    def test_still(self):
        self.assertEqual(still(1), (((1, 0),), ((-1, 0),)))
        self.assertEqual(still(3), (((1, 0), (1, 1), (1, 2)), ((-1, 0), (-1, 1), (-1, 2))))
        for rooms in range(1, 61):
            self.is_table(still(rooms), rooms)
            self.assertEqual(still(rooms), plain_table(machine_of([["by", [[0, 1]], "by"]] * rooms), ""))

    def test_of_the_strip_without_signs(self):
        for machine in drawn_machines(30, 6, seed=30):
            self.assertEqual(table_of(machine, ""), still(len(machine)))

    def test_of_one_sign(self):
        self.assertEqual(sign_table(EXAMPLE, "a"), (((1, 0), (1, 1)), ((1, 0), (1, 1))))
        self.assertEqual(sign_table(EXAMPLE, "b"), (((-1, 1), (1, 0)), ((-1, 1), (1, 0))))
        third = read_machine("by,0>,0>,1<,by by,0>,0>,0>,by")
        self.assertEqual(sign_table(third, "c"), (((-1, 1), (1, 0)), ((-1, 1), (1, 0))))

    def test_fore_and_aft_of_one_sign_are_alike(self):
        for machine in drawn_machines(80, 6, seed=31):
            for sign in "abc"[:signs_of(machine)]:
                table = sign_table(machine, sign)
                self.is_table(table, len(machine))
                self.assertEqual(table[0], table[1])
                self.assertEqual(table, plain_table(machine, sign))
                self.assertEqual(table, table_of(machine, sign))

    def test_of_many_signs_by_hand(self):
        # Over ab from the left: room 0 comes to b, is sent back to a in room 1 and so to b, which it leaves in room 0.
        self.assertEqual(table_of(EXAMPLE, "ab"), (((1, 0), (1, 0)), ((1, 0), (1, 0))))
        self.assertEqual(table_of(EXAMPLE, "ba"), (((-1, 1), (1, 0)), ((1, 0), (1, 1))))
        # Between both b it goes to and fro without end, in room 1 on and in room 0 back.
        self.assertEqual(table_of(EXAMPLE, "bb"), (((-1, 1), None), (None, (1, 0))))

    def test_as_plainly_said(self):
        things = {1: 0, -1: 0, None: 0}
        for machine in drawn_machines(150, 5, seed=32):
            for strip in strips(signs_of(machine), 4):
                table = table_of(machine, strip)
                self.is_table(table, len(machine))
                self.assertEqual(table, plain_table(machine, strip))
                for thing in table[0] + table[1]:
                    things[thing and thing[0]] += 1
        self.assertGreater(min(things.values()), 1000)

    def test_many_rooms_and_signs(self):
        source = random.Random(33)
        for number in range(10):
            machine = drawn_machine(source, 60, 3, 20)
            strip = drawn_strip(source, machine, 60)
            self.assertEqual(table_of(machine, strip), plain_table(machine, strip))
        self.is_table(table_of(machine, drawn_strip(source, machine, 400)), 60)

    def test_left_and_right_tell_nothing(self):
        for machine in drawn_machines(30, 5, seed=34):
            other = machine_of([["by", cells, "out"] for left, cells, right in machine])
            for strip in strips(signs_of(machine), 3):
                self.assertEqual(table_of(machine, strip), table_of(other, strip))

    def test_asked_again_the_same(self):
        for again in range(2):
            self.assertEqual(table_of(EXAMPLE, "bb"), (((-1, 1), None), (None, (1, 0))))
            self.assertEqual(still(1), ((ON,), (BACK,)))


class Behind(TableCase):
    def test_however_it_is_cut(self):
        for machine in drawn_machines(60, 5, seed=40):
            for strip in strips(signs_of(machine), 4):
                table = plain_table(machine, strip)
                for cut in range(len(strip) + 1):
                    ahead, rest = plain_table(machine, strip[:cut]), plain_table(machine, strip[cut:])
                    self.assertEqual(behind(ahead, rest), table)

    def test_in_whatever_brackets(self):
        source = random.Random(41)

        def bracketed(machine, strip):
            if len(strip) == 1:
                return sign_table(machine, strip)
            cut = source.randint(1, len(strip) - 1)
            return behind(bracketed(machine, strip[:cut]), bracketed(machine, strip[cut:]))

        for number in range(60):
            machine = drawn_machine(source, source.randint(1, 8), source.randint(1, 3), 40)
            strip = drawn_strip(source, machine, source.randint(2, 30))
            table = table_of(machine, strip)
            for again in range(5):
                self.assertEqual(bracketed(machine, strip), table)
            self.assertEqual(said(machine, bracketed(machine, strip)), walk(machine, strip).says())

    def test_never_comes_out_between(self):
        # The one sends all back to the right, the other all back to the left.
        one, other = ((BACK,), (ON,)), ((BACK,), (ON,))
        self.assertEqual(behind(one, other), ((BACK,), (ON,)))
        self.assertEqual(behind(((ON,), (ON,)), other), ((None,), (ON,)))
        self.assertEqual(behind(one, ((BACK,), (BACK,))), ((BACK,), (None,)))
        self.assertEqual(behind(((ON,), (ON,)), ((BACK,), (BACK,))), ((None,), (None,)))

    def test_for_ever_within_one_of_both(self):
        ever = ((None,), (None,))
        for table in one_room_tables():
            self.assertEqual(behind(ever, table)[0], (None,))
            self.assertEqual(behind(table, ever)[1], (None,))
        self.assertEqual(behind(((ON,), (BACK,)), ever), ever)
        self.assertEqual(behind(((BACK,), (BACK,)), ever), ((BACK,), (None,)))

    def test_comes_out_after_many_turns(self):
        # Each time that it is sent back it is in the next room; the last one goes on.
        rooms = 60
        up = tuple((1, min(room + 1, rooms - 1)) for room in range(rooms))
        down = tuple((-1, room) if room < rooms - 1 else (1, room) for room in range(rooms))
        table = behind((up, up), (down, down))
        self.assertEqual(table[0], ((1, rooms - 1),) * rooms)
        self.assertEqual(table[1], ((1, rooms - 1),) * rooms)

    def test_all_tables_of_one_room(self):
        for one, two, three in itertools.product(one_room_tables(), repeat=3):
            self.assertEqual(behind(behind(one, two), three), behind(one, behind(two, three)))

    def test_brackets_tell_nothing_and_still_changes_nothing(self):
        source = random.Random(42)
        for number in range(4000):
            rooms = source.randint(1, 6)
            one, two, three = (drawn_table(source, rooms) for part in range(3))
            self.is_table(behind(one, two), rooms)
            self.assertEqual(behind(behind(one, two), three), behind(one, behind(two, three)))
            self.assertEqual(behind(one, still(rooms)), one)
            self.assertEqual(behind(still(rooms), one), one)

    def test_which_is_ahead_matters(self):
        self.assertNotEqual(table_of(EXAMPLE, "ab"), table_of(EXAMPLE, "ba"))
        self.assertEqual(behind(sign_table(EXAMPLE, "a"), sign_table(EXAMPLE, "b")), table_of(EXAMPLE, "ab"))
        self.assertEqual(behind(sign_table(EXAMPLE, "b"), sign_table(EXAMPLE, "a")), table_of(EXAMPLE, "ba"))


class Said(TableCase):
    def test_what_the_walk_says(self):
        found = {"by": 0, "out": 0, "ever": 0}
        for machine in drawn_machines(150, 5, seed=50):
            for strip in strips(signs_of(machine), 4):
                word = plain_word(machine, strip)
                found[word] += 1
                self.assertEqual(said(machine, table_of(machine, strip)), word)
                self.assertEqual(walk(machine, strip).says(), word)
        self.assertGreater(min(found.values()), 1000)

    def test_long_strips(self):
        source = random.Random(51)
        for number in range(40):
            machine = drawn_machine(source, source.randint(2, 60), 3, 4)
            strip = drawn_strip(source, machine, 400)
            self.assertEqual(said(machine, table_of(machine, strip)), walk(machine, strip).says())

    def test_at_the_left_mark_at_once(self):
        for word in ("by", "out"):
            machine = read_machine(f"{word},0>,0")
            for table in one_room_tables():
                self.assertEqual(said(machine, table), word)

    def test_tables_made_by_hand_of_one_room(self):
        by = read_machine("0,0>,by")
        for table in one_room_tables():
            self.assertEqual(said(by, table), "by" if table[0][0] == ON else "ever")
        round_and_round = read_machine("0,0>,0")
        for table in one_room_tables():
            self.assertEqual(said(round_and_round, table), "ever")

    def test_each_end_is_asked_of_its_own_part(self):
        # Left and fore of 0, right and aft of 1, left and fore of 2: each leads on, all else is shut out or for ever.
        machine = read_machine("1,0>,out out,0>,2 3,0>,out out,0>,by")
        table = ((None, (1, 1), None, (1, 3)), (None, None, (-1, 2), None))
        self.assertEqual(said(machine, table), "by")
        self.assertEqual(said(machine, ((None, (1, 1), None, (-1, 3)), table[1])), "out")
        self.assertEqual(said(machine, (table[0], (None, None, None, (-1, 2)))), "ever")
        self.assertEqual(said(machine, (table[1], table[0])), "ever")

    def test_comes_again_to_a_mark(self):
        machine = read_machine("0,0>,1 1,0>,0")
        for things in itertools.product(((1, 0), (1, 1), (-1, 0), (-1, 1)), repeat=4):
            self.assertEqual(said(machine, (things[:2], things[2:])), "ever")

    def test_one_room_at_both_marks_is_no_coming_again(self):
        machine = read_machine("0,0>,1 by,0>,out")
        self.assertEqual(said(machine, (((1, 0), None), (None, (-1, 1)))), "by")


class Turned(TableCase):
    def test_by_hand(self):
        table = (((1, 0), None, (-1, 2)), ((-1, 1), (1, 1), None))
        self.assertEqual(turned(table), (((1, 1), (-1, 1), None), ((-1, 0), None, (1, 2))))
        self.assertEqual(mirrored(EXAMPLE), (("out", ((0, -1), (1, 1)), 1), ("by", ((1, -1), (0, -1)), 0)))
        self.assertEqual(turned(still(5)), still(5))

    def test_twice_is_the_same(self):
        source = random.Random(60)
        for number in range(500):
            table = drawn_table(source, source.randint(1, 7))
            self.is_table(turned(table), len(table[0]))
            self.assertEqual(turned(turned(table)), table)
        for machine in drawn_machines(100, 60, seed=61):
            self.assertEqual(mirrored(mirrored(machine)), machine)
            self.assertEqual(machine_of(mirrored(machine)), mirrored(machine))

    def test_read_from_the_end_by_the_mirrored_machine(self):
        for machine in drawn_machines(100, 5, seed=62):
            for strip in strips(signs_of(machine), 4):
                there = table_of(mirrored(machine), strip[::-1])
                self.assertEqual(there, turned(table_of(machine, strip)))

    def test_parts_turned_change_places(self):
        source = random.Random(63)
        for number in range(500):
            rooms = source.randint(1, 5)
            one, other = drawn_table(source, rooms), drawn_table(source, rooms)
            self.assertEqual(turned(behind(one, other)), behind(turned(other), turned(one)))


class Refused(TableCase):
    def test_another_sign(self):
        for signs, machine in ((1, read_machine("0,0>,by")), (2, EXAMPLE), (3, read_machine("0,0>,0>,0<,by"))):
            known = "abc"[:signs]
            for bad in ("abcd"[signs], "A", " ", "-", "0", "~"):
                for strip, at in ((bad, 0), (known + bad + bad, signs), ("a" * 400 + bad, 400)):
                    with self.assertRaises(NoStrip) as caught:
                        table_of(machine, strip)
                    self.assertEqual(caught.exception.at, at)
                with self.assertRaises(NoStrip) as caught:
                    sign_table(machine, bad)
                self.assertEqual(caught.exception.at, 0)


if __name__ == "__main__":
    unittest.main()
