import random
import unittest

from plainly import drawn_machine, drawn_machines, drawn_strip, plain_table, strips

from striproam.errors import NoMachine, NoStrip, NotLike, NoWord, TooMany, WayError
from striproam.gathering import all_tables, products
from striproam.machines import machine_of, signs_of
from striproam.tables import behind, sign_table, still, table_of
from striproam.texts import read_machine

EXAMPLE = read_machine("1,0>,1<,out 0,1>,0>,by")
STRAIGHT = read_machine("0,0>,by")
BACK_AND_ON = read_machine("0,0<,0>,by")
# Found among drawn machines; how many tables each has is seen again here.
OF_300 = (
    "3,1<,0<,1<,3 0,3>,3<,1<,1 2,0<,2<,1>,0 by,2<,3<,1>,out",
    "out,5<,5<,0>,1 out,1<,0>,0>,4 0,4<,4>,5>,by 2,0>,4>,3>,1 out,4>,0<,1>,3 5,2<,1<,3>,2",
)
OF_301 = (
    "out,3<,1>,3>,out 3,1<,3>,0<,1 by,2<,3>,3>,2 3,2>,1<,1<,1",
    "by,4<,0<,3>,2 out,2<,1<,0>,2 0,4<,0>,2<,2 out,4>,3<,4<,out out,0>,3>,3<,3",
)
OF_40 = (
    "out,2>,2>,out out,1<,0<,3 1,2<,1<,5 by,0>,4<,4 4,5>,3>,out 3,3<,2>,by",
    "1,1>,1>,0 0,0>,4<,out out,2<,2>,4 1,4>,3<,0 0,3<,4<,2",
)
OF_41 = (
    "0,2>,3>,3>,by 1,3>,1>,1<,1 2,2>,0>,0>,1 by,0>,3>,3>,by",
    "2,1>,1<,1 1,2<,3<,3 out,2<,3>,out 0,0<,3>,2",
)


def rings(*lengths):
    """A machine of one sign that goes on alone, its rooms in rings of these lengths."""
    rows = []
    for length in lengths:
        begin = len(rows)
        rows += [["by", [[begin + (room + 1) % length, 1]], "by"] for room in range(length)]
    return machine_of(rows)


def plain_tables(machine, longest):
    """Each table of the strips up to a length with its first strip."""
    found = {}
    for strip in strips(signs_of(machine), longest):
        found.setdefault(plain_table(machine, strip), strip)
    return [(strip, table) for table, strip in found.items()]


def how_many(machine, most):
    """How many tables there are, or one more than most; counted without their strips."""
    found = {still(len(machine))}
    new = found
    ends = [sign_table(machine, sign) for sign in "abc"[:signs_of(machine)]]
    while new and len(found) <= most:
        new = {behind(end, table) for table in new for end in ends} - found
        found = found | new
    return min(len(found), most + 1)


def place_in_order(strip):
    return (len(strip), strip)


class AllTables(unittest.TestCase):
    def test_by_hand(self):
        on, back = ((1, 0),), ((-1, 0),)
        self.assertEqual(all_tables(STRAIGHT), [("", still(1)), ("a", (on, on))])
        self.assertEqual(all_tables(read_machine("0,0>,0>,by")), [("", still(1)), ("a", (on, on))])
        self.assertEqual(all_tables(BACK_AND_ON), [
            ("", still(1)), ("a", (back, back)), ("b", (on, on)), ("ab", (back, on)), ("ba", ((None,), (None,))),
            ("aba", (back, (None,))), ("bab", ((None,), on)),
        ])

    def test_the_strips_of_an_example(self):
        told = ["", "a", "b", "ab", "ba", "bb", "aba", "abb", "bab", "bba", "abba", "bbab", "abbab"]
        self.assertEqual([strip for strip, table in all_tables(EXAMPLE)], told)

    def test_the_first_strip_is_no_sign(self):
        for machine in drawn_machines(60, 3, seed=70):
            self.assertEqual(all_tables(machine)[0], ("", still(len(machine))))

    def test_as_plainly_said(self):
        tried = 0
        for machine in drawn_machines(120, 2, seed=71):
            tables = all_tables(machine)
            longest = len(tables[-1][0])
            if signs_of(machine) ** longest < 3000:
                tried += 1
                self.assertEqual(tables, plain_tables(machine, longest + 1))
        self.assertGreater(tried, 60)

    def test_one_sign_as_plainly_said(self):
        source = random.Random(72)
        for number in range(60):
            machine = drawn_machine(source, source.randint(1, 8), 1, 40)
            tables = all_tables(machine)
            self.assertEqual(tables, plain_tables(machine, len(tables) + 3))

    def test_order_each_once_each_of_its_strip(self):
        for machine in drawn_machines(60, 3, seed=73):
            tables = all_tables(machine)
            found = [strip for strip, table in tables]
            self.assertEqual(found, sorted(set(found), key=place_in_order))
            self.assertEqual(len({table for strip, table in tables}), len(tables))
            for strip, table in tables:
                self.assertEqual(table_of(machine, strip), table)

    def test_closed_under_each_sign_behind_and_ahead(self):
        for machine in drawn_machines(40, 3, seed=74):
            found = {table for strip, table in all_tables(machine)}
            for sign in "abc"[:signs_of(machine)]:
                end = sign_table(machine, sign)
                for table in found:
                    self.assertIn(behind(table, end), found)
                    self.assertIn(behind(end, table), found)

    def test_the_table_of_each_strip_is_there_with_it_or_one_before(self):
        source = random.Random(75)
        for machine in drawn_machines(40, 3, seed=76):
            first = {table: strip for strip, table in all_tables(machine)}
            for length in (0, 1, 2, 3, 5, 8, 20, 100):
                strip = drawn_strip(source, machine, length)
                known = first[table_of(machine, strip)]
                self.assertLessEqual(place_in_order(known), place_in_order(strip))

    def test_just_300(self):
        for machine in [read_machine(text) for text in OF_300] + [rings(13, 23)]:
            tables = all_tables(machine)
            self.assertEqual(len(tables), 300)
            self.assertEqual(len({table for strip, table in tables}), 300)
        self.assertEqual(all_tables(rings(13, 23))[299][0], "a" * 299)

    def test_more_than_300(self):
        source = random.Random(77)
        large = [drawn_machine(source, 60, 3, 20) for number in range(5)]
        texts = [read_machine(text) for text in OF_301]
        for machine in texts + large + [rings(3, 4, 25), rings(7, 43), rings(3, 4, 5, 7, 11, 13)]:
            with self.assertRaises(TooMany) as caught:
                all_tables(machine)
            self.assertIsInstance(caught.exception, WayError)
            self.assertNotIsInstance(caught.exception, (NoMachine, NoStrip, NotLike, NoWord))

    def test_as_many_as_are_counted(self):
        for texts, many in ((OF_40, 40), (OF_41, 41), (OF_300, 300), (OF_301, 301)):
            for text in texts:
                self.assertEqual(how_many(read_machine(text), 400), many)
        refused = 0
        for machine in drawn_machines(120, 12, seed=78):
            many = how_many(machine, 300)
            if many <= 300:
                self.assertEqual(len(all_tables(machine)), many)
            else:
                refused += 1
                self.assertRaises(TooMany, all_tables, machine)
        self.assertIn(refused, range(10, 110))

    def test_kinds(self):
        for machine in (STRAIGHT, EXAMPLE):
            self.assertIs(type(all_tables(machine)), list)
            for entry in all_tables(machine):
                self.assertIs(type(entry), tuple)
                self.assertEqual([type(part) for part in entry], [str, tuple])

    def test_the_told_list_is_the_askers_own(self):
        told = all_tables(EXAMPLE)
        asked = list(told)
        other = all_tables(EXAMPLE)
        told.clear()
        self.assertEqual(other, asked)
        other.reverse()
        self.assertEqual(all_tables(EXAMPLE), asked)
        kept = all_tables(EXAMPLE)
        products(EXAMPLE).clear()
        all_tables(STRAIGHT).append(None)
        self.assertEqual(kept, asked)
        self.assertEqual(all_tables(EXAMPLE), asked)


class Products(unittest.TestCase):
    def test_by_hand(self):
        self.assertEqual(products(STRAIGHT), [[0, 1], [1, 1]])
        # Of strips with both signs the first and the last sign tell the table: ab, ba, aba, bab are 3 to 6.
        self.assertEqual(products(BACK_AND_ON), [
            [0, 1, 2, 3, 4, 5, 6],
            [1, 1, 3, 3, 5, 5, 3],
            [2, 4, 2, 6, 4, 4, 6],
            [3, 5, 3, 3, 5, 5, 3],
            [4, 4, 6, 6, 4, 4, 6],
            [5, 5, 3, 3, 5, 5, 3],
            [6, 4, 6, 6, 4, 4, 6],
        ])

    def test_the_tables_of_strips_put_together(self):
        tried = 0
        for machine in drawn_machines(60, 3, seed=80):
            tables = all_tables(machine)
            if len(tables) > 40:
                continue
            tried += 1
            numbers = {table: number for number, (strip, table) in enumerate(tables)}
            told = products(machine)
            self.assertEqual(len(told), len(tables))
            for (one, table), row in zip(tables, told):
                self.assertIs(type(row), list)
                self.assertEqual(row, [numbers[plain_table(machine, one + other)] for other, table in tables])
        self.assertGreater(tried, 20)

    def test_just_40(self):
        for machine in [read_machine(text) for text in OF_40] + [rings(3, 13)]:
            told = products(machine)
            self.assertEqual([len(row) for row in told], [40] * 40)
            self.assertEqual(told[0], list(range(40)))
            self.assertEqual([row[0] for row in told], list(range(40)))
            for one in range(40):
                for two in range(40):
                    for three in range(0, 40, 7):
                        self.assertEqual(told[told[one][two]][three], told[one][told[two][three]])

    def test_a_ring_of_39(self):
        told = products(rings(3, 13))
        for one in range(1, 40):
            self.assertEqual(told[one][1:], [(one + other - 1) % 39 + 1 for other in range(1, 40)])

    def test_more_than_40(self):
        for machine in [read_machine(text) for text in OF_41 + OF_300 + OF_301] + [rings(5, 8), rings(3, 4, 25)]:
            with self.assertRaises(TooMany):
                products(machine)
        for machine in [read_machine(text) for text in OF_41] + [rings(5, 8)]:
            self.assertEqual(len(all_tables(machine)), 41)

    def test_the_told_lists_are_the_askers_own(self):
        told = products(EXAMPLE)
        asked = [list(row) for row in told]
        other = products(EXAMPLE)
        self.assertEqual(len({id(row) for row in told + other}), 2 * len(asked))
        told[0].clear()
        told[1][0] = 99
        self.assertEqual(told[2:], asked[2:])
        told.pop()
        self.assertEqual(other, asked)
        self.assertEqual(products(EXAMPLE), asked)

    def test_after_a_refusal(self):
        with self.assertRaises(TooMany):
            products(rings(5, 8))
        with self.assertRaises(TooMany):
            products(rings(5, 8))
        self.assertEqual(len(all_tables(rings(5, 8))), 41)


if __name__ == "__main__":
    unittest.main()
