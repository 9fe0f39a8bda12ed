import random
import string
import unittest

from plainly import drawn_machine, plain_word, strips

from striproam.again import comes_round
from striproam.desk import Desk
from striproam.errors import (
    NoBorder, NoLine, NoMachine, NoName, NoStrip, NoText, NothingDone, NotLike, NoWord, TooMany, WayError,
)
from striproam.gathering import all_tables
from striproam.joining import both, either, swapped, turned_about
from striproam.least import least_of
from striproam.machines import machine_of
from striproam.stopping import first_strip, stopping
from striproam.texts import machine_text, read_machine
from striproam.walks import walk

EXAMPLE = "1,0>,1<,out 0,1>,0>,by"
# Lets by where the number of a is even; the same, read from the right; where there is no a; of one sign, of three.
EVEN = "0,1>,0>,by 0,0>,1>,out"
EVEN_BACK = "0,0>,0>,1 by,2<,1<,by out,1<,2<,by"
NO_A = "0,1>,0>,by 0,1>,1>,out"
ONE_SIGN = "0,0>,by"
THREE_SIGNS = "0,0>,0>,0>,by"
TO_AND_FRO = "0,0>,1<,out 2,1<,2>,out out,2>,2>,by"
# Of 201 beginnings.
TOO_MANY = "9,2>,6<,out 8,6>,4<,8 out,8<,4>,8 7,9>,3>,3 2,1<,2<,6 2,0<,9<,7 3,3>,2<,5 8,4<,0<,5 by,2<,8>,6 9,1>,9>,4"
# Of 301 tables, of few beginnings but 61 rooms when it always stops.
TABLES_301 = "out,3<,1>,3>,out 3,1<,3>,0<,1 by,2<,3>,3>,2 3,2>,1<,1<,1"
STOPPING_61 = "2,2>,1<,5>,by 2,4>,5<,5>,by 3,1>,2>,6>,out out,5>,1>,3>,by 4,3>,4>,6>,0 4,1<,3>,4>,out 1,6<,0<,6<,1"
SIXTY = " ".join(["0,0>,0>,by"] * 60)
CHANGING = ("keep", "no", "about", "stop", "either", "both", "drop")


def desk_with(**texts):
    desk = Desk()
    for name, text in texts.items():
        desk.told(f"keep {name} {text}")
    return desk


def state(desk):
    names = desk.told("names")
    return names, [desk.machine(name) for name in names.split()], desk.undoable()


class DeskCase(unittest.TestCase):
    def answers(self, desk, *lines):
        """Lines and answers by turns."""
        for line, answer in zip(lines[::2], lines[1::2], strict=True):
            told = desk.told(line)
            self.assertEqual(told, answer, line)
            self.assertIs(type(told), str)

    def refused(self, desk, line, error, /, **values):
        before = state(desk)
        for again in range(2):
            with self.assertRaises(WayError) as caught:
                desk.told(line)
            self.assertIs(type(caught.exception), error, line)
            self.assertEqual(vars(caught.exception), values, line)
        self.assertEqual(state(desk), before)


class Keeping(DeskCase):
    def test_keep(self):
        desk = Desk()
        self.answers(desk, f"keep even {EVEN}", "2", f"keep x {ONE_SIGN}", "1", f"keep abcdefgh {SIXTY}", "60")
        self.assertEqual(desk.machine("even"), read_machine(EVEN))
        self.assertEqual(desk.machine("abcdefgh"), read_machine(SIXTY))
        self.answers(desk, f"keep x {EVEN_BACK}", "3", "names", "abcdefgh even x")
        self.assertEqual(desk.machine("x"), read_machine(EVEN_BACK))

    def test_names_that_are_words_of_lines(self):
        desk = Desk()
        self.answers(desk, f"keep keep {EVEN}", "2", f"keep by {NO_A}", "2", "both names keep by", "5",
                     "first by by", "-", "names", "by keep names", "drop keep", "2")
        self.answers(desk, f"keep undo {ONE_SIGN}", "1", f"keep drop {NO_A}", "2", "show undo", ONE_SIGN,
                     "show drop", NO_A, "rooms drop", "2", "tables undo", "2", "no undo undo", "1", "compare by drop", "alike",
                     "drop drop", "3", "undo", "4", "drop undo", "3", "undo", "4", "undo", "4", "show undo", ONE_SIGN)

    def test_no(self):
        desk = desk_with(even=EVEN)
        self.answers(desk, "no odd even", "2", "walk odd a", "by 2 1", "walk even a", "out 2 1", "names", "even odd",
                     "show odd", "0,1>,0>,out 0,0>,1>,by")
        self.assertEqual(desk.machine("odd"), swapped(read_machine(EVEN)))

    def test_about(self):
        desk = desk_with(x=EXAMPLE)
        self.answers(desk, "about y x", "3", "about y y", "4")
        self.assertEqual(desk.machine("y"), turned_about(turned_about(read_machine(EXAMPLE))))
        for strip in strips(2, 4):
            desk.told("about z x")
            self.assertEqual(desk.told(f"walk z {strip or '-'}").split()[0], plain_word(desk.machine("x"), strip[::-1]))

    def test_stop(self):
        desk = desk_with(x=EXAMPLE, back=EVEN_BACK)
        self.answers(desk, "stop y x", "2", "show y", "0,0>,1>,by out,1>,1>,out", "stop back back", "2",
                     "show back", "0,1>,0>,by out,0>,1>,out")
        self.assertEqual(desk.machine("y"), stopping(read_machine(EXAMPLE)))

    def test_either_and_both(self):
        desk = desk_with(even=EVEN, none=NO_A, x=EXAMPLE)
        self.answers(desk, "either e x even", "5", "both b x even", "5", "either f even none", "5")
        self.assertEqual(desk.machine("e"), either(read_machine(EXAMPLE), read_machine(EVEN)))
        self.assertEqual(desk.machine("b"), both(read_machine(EXAMPLE), read_machine(EVEN)))
        self.answers(desk, "compare f even", "alike", "both g even none", "5", "compare g none", "alike",
                     "compare g f", "unlike aa")

    def test_made_of_itself(self):
        desk = desk_with(x=EXAMPLE)
        self.answers(desk, "no x x", "2", "no x x", "2", "show x", EXAMPLE, "either x x x", "5", "both x x x", "11",
                     "about x x", "12", "stop x x", "2", "names", "x")
        self.assertEqual(desk.undoable(), 7)
        self.answers(desk, "undo", "1", "undo", "1", "undo", "1", "undo", "1", "show x", EXAMPLE)

    def test_either_of_one_to_another_that_is_there(self):
        desk = desk_with(x=EVEN, y=NO_A)
        self.answers(desk, "both y x y", "5", "either x x y", "8", "names", "x y")
        joined = both(read_machine(EVEN), read_machine(NO_A))
        self.assertEqual(desk.machine("y"), joined)
        self.assertEqual(desk.machine("x"), either(read_machine(EVEN), joined))

    def test_drop(self):
        desk = desk_with(x=EVEN, y=NO_A, z=EXAMPLE)
        self.answers(desk, "drop y", "2", "names", "x z", "drop x", "1", "drop z", "0", "names", "")
        self.refused(desk, "drop z", NoName, name="z")

    def test_names_in_the_alphabets_order(self):
        desk = Desk()
        self.answers(desk, "names", "")
        for name in ("b", "ab", "a", "zz", "aa", "z", "abc", "ba"):
            desk.told(f"keep {name} {ONE_SIGN}")
        self.answers(desk, "names", "a aa ab abc b ba z zz")

    def test_machine(self):
        desk = desk_with(x=EXAMPLE)
        self.assertEqual(desk.machine("x"), machine_of(read_machine(EXAMPLE)))
        for name in ("y", "", "X", "xx", "x ", "abcdefghi", "-"):
            with self.assertRaises(NoName) as caught:
                desk.machine(name)
            self.assertEqual(caught.exception.name, name)

    def test_two_desks(self):
        one, other = Desk(), Desk()
        self.answers(one, f"keep x {EVEN}", "2")
        self.refused(other, "show x", NoName, name="x")
        self.refused(other, "undo", NothingDone)
        self.answers(other, f"keep x {ONE_SIGN}", "1", "no y x", "1", "drop x", "1")
        self.answers(one, "names", "x", "show x", EVEN, "undo", "0")
        self.assertEqual([one.undoable(), other.undoable()], [0, 3])
        self.answers(other, "names", "y")


class Undo(DeskCase):
    def test_of_each_kind(self):
        for line in (
            f"keep x {ONE_SIGN}", f"keep new {ONE_SIGN}", "no x y", "no new y", "about x x", "about new y", "stop x y",
            "stop new x", "either x x y", "either new x y", "both y x y", "both new y x", "drop x", "drop y",
        ):
            desk = desk_with(x=EVEN, y=NO_A)
            before = state(desk)
            desk.told(line)
            self.assertNotEqual(state(desk), before)
            self.assertEqual(desk.undoable(), 3)
            self.answers(desk, "undo", "2")
            self.assertEqual(state(desk), before)

    def test_several_in_a_row(self):
        desk = Desk()
        lines = (f"keep x {EVEN}", f"keep y {NO_A}", "no x x", "both x x y", "drop y", "stop y x", "drop x", "about z y",
                 f"keep z {EXAMPLE}")
        states = []
        for line in lines:
            states.append(state(desk))
            desk.told(line)
        for before in reversed(states):
            self.answers(desk, "undo", str(len(before[1])))
            self.assertEqual(state(desk), before)
        self.refused(desk, "undo", NothingDone)

    def test_the_answer_is_how_many_are_kept(self):
        desk = Desk()
        self.answers(desk, f"keep x {EVEN}", "2", f"keep x {NO_A}", "2", f"keep y {NO_A}", "2", "drop x", "1",
                     "undo", "2", "undo", "1", "undo", "1", "show x", EVEN, "undo", "0", "names", "")

    def test_behind_lines_that_only_asked_and_lines_that_were_refused(self):
        desk = desk_with(x=EVEN, y=NO_A)
        for line in ("show x", "names", "walk x ab", "border x ab 1", "rooms x", "tables x", "first x out", "compare x y",
                     "again x a b a"):
            desk.told(line)
            self.assertEqual(desk.undoable(), 2)
        for line in ("show z", "keep x", "keep y by,1>,by", "no z w", "drop w", "walk x c", "border x a 2", "nonsense", ""):
            self.assertRaises(WayError, desk.told, line)
            self.assertEqual(desk.undoable(), 2)
        self.answers(desk, "undo", "1", "names", "x", "undo", "0", "names", "")

    def test_an_undone_line_is_not_undone_again(self):
        desk = desk_with(x=EVEN)
        self.answers(desk, "no x x", "2", "undo", "1", "show x", EVEN, "undo", "0")
        self.refused(desk, "undo", NothingDone)
        self.answers(desk, f"keep y {NO_A}", "2", "undo", "0", f"keep z {NO_A}", "2", "names", "z")
        self.assertEqual(desk.undoable(), 1)

    def test_new_lines_behind_undo(self):
        desk = desk_with(x=EVEN)
        self.answers(desk, "drop x", "0", "undo", "1", "drop x", "0", f"keep x {NO_A}", "2", "undo", "0", "undo", "1",
                     "show x", EVEN, "undo", "0")

    def test_nothing_done(self):
        desk = Desk()
        self.assertEqual(desk.undoable(), 0)
        self.refused(desk, "undo", NothingDone)
        desk.told("names")
        self.refused(desk, "undo", NothingDone)

    def test_against_whole_copies(self):
        source = random.Random(170)
        for number in range(20):
            desk, kept, past = Desk(), {}, []
            for step in range(60):
                name, one, two = [source.choice("xyz") for part in range(3)]
                before = dict(kept)
                kind = source.choice(CHANGING + ("undo", "undo", "undo"))
                made = {"keep": lambda: read_machine(EVEN), "no": lambda: swapped(kept[one]),
                        "about": lambda: turned_about(kept[one]), "stop": lambda: stopping(kept[one]),
                        "either": lambda: either(kept[one], kept[two]), "both": lambda: both(kept[one], kept[two])}
                line = {"keep": f"keep {name} {EVEN}", "drop": f"drop {name}", "undo": "undo"}.get(kind)
                line = line or (f"{kind} {name} {one} {two}" if kind in ("either", "both") else f"{kind} {name} {one}")
                try:
                    if kind == "drop":
                        del kept[name]
                    elif kind == "undo":
                        kept = past.pop()
                    else:
                        kept[name] = made[kind]()
                except (KeyError, IndexError, TooMany):
                    self.assertRaises((NoName, NothingDone, TooMany), desk.told, line)
                else:
                    desk.told(line)
                    if kind != "undo":
                        past.append(before)
                self.assertEqual(desk.undoable(), len(past))
                self.assertEqual(desk.told("names"), " ".join(sorted(kept)))
                self.assertEqual({name: desk.machine(name) for name in kept}, kept)


class Asking(DeskCase):
    def test_show(self):
        desk = desk_with(x=EXAMPLE, y=SIXTY)
        self.answers(desk, "show x", EXAMPLE, "show y", SIXTY)

    def test_walk(self):
        desk = desk_with(x=EXAMPLE, y=TO_AND_FRO, one=ONE_SIGN, at="by,0>,out")
        self.answers(desk, "walk y b", "by 2 2", "walk y aa", "out 3 0", "walk y -", "out 1 0", "walk one -", "by 1 0",
                     "walk at aaa", "by 0 0", "walk x bb", "ever 1 1")
        for strip in strips(2, 5):
            ending = walk(read_machine(EXAMPLE), strip)
            self.answers(desk, f"walk x {strip or '-'}", f"{ending.says()} {ending.place} {ending.room}")

    def test_border(self):
        desk = desk_with(y=TO_AND_FRO, at="by,0>,out", one=ONE_SIGN)
        self.answers(desk, "border y b 0", "0 1 2", "border y b 1", "2", "border one - 0", "0", "border one aaa 3", "0")
        # Stopped at the left mark, nothing crosses any border.
        self.answers(desk, "border at aa 0", "", "border at aa 2", "", "border at - 0", "")
        # On to the b in room 0, back to the left mark in room 1, on to the right one in room 2.
        self.answers(desk, "border y aab 0", "0 1 2", "border y aab 1", "0 1 2", "border y aab 2", "0 1 2",
                     "border y aab 3", "2")

    def test_border_of_a_long_strip(self):
        desk = desk_with(one=ONE_SIGN)
        strip = "a" * 400
        self.answers(desk, f"border one {strip} 400", "0", f"border one {strip} 99", "0")
        self.refused(desk, f"border one {strip} 401", NoBorder)

    def test_border_for_ever(self):
        desk = desk_with(x=EXAMPLE)
        self.answers(desk, "border x bb 0", "ever", "border x bb 2", "ever")
        self.refused(desk, "border x bb 3", NoBorder)
        self.refused(desk, "border x - 1", NoBorder)

    def test_rooms_and_tables(self):
        desk = desk_with(x=EXAMPLE, back=EVEN_BACK, one=ONE_SIGN)
        self.answers(desk, "rooms x", "4", "rooms back", "2", "rooms one", "1", "tables x", "13", "tables one", "2")
        for name in ("x", "back", "one"):
            self.answers(desk, f"tables {name}", str(len(all_tables(desk.machine(name)))),
                         f"rooms {name}", str(len(least_of(desk.machine(name))[0])))

    def test_first(self):
        desk = desk_with(x=EXAMPLE, even=EVEN)
        self.answers(desk, "first x by", "-", "first x out", "b", "first x ever", "bb", "first even ever", "none",
                     "first even out", "a", "first even by", "-")

    def test_compare(self):
        desk = desk_with(even=EVEN, back=EVEN_BACK, none=NO_A, ever="0,0>,0>,0")
        self.answers(desk, "compare even back", "alike", "compare even even", "alike", "compare even none", "unlike aa",
                     "compare none even", "unlike aa", "compare ever even", "unlike -")

    def test_again(self):
        desk = desk_with(even=EVEN, x=EXAMPLE)
        self.answers(desk, "again even - a -", "0 2 by out", "again even a a b", "0 2 out by", "again even a - -", "0 1 out",
                     "again even - aa -", "0 1 by", "again even - - -", "0 1 by")
        for ahead in ("-", "a", "b"):
            for again in ("-", "b", "ab"):
                for behind in ("-", "b", "ba"):
                    told = comes_round(read_machine(EXAMPLE), *[
                        "" if part == "-" else part for part in (ahead, again, behind)
                    ])
                    self.answers(desk, f"again x {ahead} {again} {behind}",
                                 " ".join([str(told[0]), str(told[1]), *told[2]]))

    def test_drawn(self):
        source = random.Random(171)
        for number in range(40):
            machine = drawn_machine(source, source.randint(1, 4), 2, 40)
            desk = desk_with(x=machine_text(machine))
            self.assertEqual(desk.machine("x"), machine)
            for word in ("by", "out", "ever"):
                told = first_strip(machine, word)
                self.answers(desk, f"first x {word}", "none" if told is None else told or "-")

    def test_asked_again_the_same(self):
        desk = desk_with(x=EXAMPLE, y=EVEN)
        lines = ("show x", "names", "walk x ab", "border x ab 1", "rooms x", "tables x", "first x out", "compare x y",
                 "again x a b a")
        asked = [desk.told(line) for line in lines]
        self.assertEqual([desk.told(line) for line in reversed(lines)], asked[::-1])


class Refused(DeskCase):
    def test_no_line(self):
        desk = desk_with(x=EXAMPLE, y=EVEN)
        for line in (
            "", " ", "  ", "keeps x y", "Keep x 0,0>,by", "KEEP x 0,0>,by", "hello", "-", "x", "wal x a", "walk", "undo x",
            "undo ", " undo", "names ", " names", "names x", "names  ", "show", "show ", "show x ", "show  x", " show x",
            "show x y", "drop", "drop x y", "no x", "no x y x", "no  x", "no x  y", "no x ", "about x", "about x y x", "stop x",
            "stop x y x", "either x y", "either x y x y", "both x y", "both x y x y", "both x  y", "walk x", "walk x a b",
            "walk x ", "walk x  ", "walk x  a", "walk x a ", "border x a", "border x 1", "border x a 1 1", "border x a ",
            "border x  1", "rooms", "rooms x y", "tables", "tables x y", "first x", "first x by out", "first x ", "compare x",
            "compare x y x", "compare", "again x a a", "again x a a a a", "again x a  a", "again x  a a", "again x a a ",
            "again x", "keep", "keep x", "keep ", "keep  0,0>,by",
        ):
            self.refused(desk, line, NoLine, line=line)

    def test_names_that_are_none(self):
        desk = desk_with(x=EXAMPLE)
        for name in ("abcdefghi", "X", "xY", "x1", "1", "-", "x-", "x_", "x,", "x.y", "abcdefghijklmnop", "*"):
            for line in (
                f"keep {name} {EVEN}", f"no {name} x", f"no x {name}", f"about {name} x", f"about x {name}",
                f"stop {name} x", f"stop x {name}", f"either {name} x x", f"either x {name} x", f"either x x {name}",
                f"both {name} x x", f"both x {name} x", f"both x x {name}", f"drop {name}", f"show {name}",
                f"walk {name} a", f"border {name} a 1", f"rooms {name}", f"tables {name}", f"first {name} by",
                f"compare {name} x", f"compare x {name}", f"again {name} a a a", f"keep {name} nonsense",
            ):
                self.refused(desk, line, NoLine, line=line)

    def test_every_letter(self):
        desk = Desk()
        for letter in string.ascii_lowercase:
            self.answers(desk, f"keep {letter * 8} {ONE_SIGN}", "1")
        for sign in "`{@[/:":
            self.refused(desk, f"keep a{sign} {ONE_SIGN}", NoLine, line=f"keep a{sign} {ONE_SIGN}")

    def test_words_that_are_none(self):
        desk = desk_with(x=EXAMPLE, many=TOO_MANY)
        for word in ("By", "OUT", "bye", "none", "b", "-", "ever.", "0"):
            for name in ("x", "many", "new"):
                self.refused(desk, f"first {name} {word}", NoLine, line=f"first {name} {word}")

    def test_numbers_that_are_none(self):
        desk = desk_with(x=EXAMPLE)
        for number in ("00", "01", "007", "1000", "0000", "1a", "a", "-1", "+1", "-", "1.", "1,", "1_0", "0x1", "9999"):
            self.refused(desk, f"border x a {number}", NoLine, line=f"border x a {number}")
            self.refused(desk, f"border new c {number}", NoLine, line=f"border new c {number}")
        for number in ("2", "10", "99", "100", "999"):
            self.refused(desk, f"border x a {number}", NoBorder)

    def test_no_name(self):
        desk = desk_with(x=EXAMPLE)
        for line, name in (
            ("no new y", "y"), ("no x y", "y"), ("about new y", "y"), ("stop x z", "z"), ("either new y z", "y"),
            ("either new x z", "z"), ("either y z x", "z"), ("both y y y", "y"), ("both x x abcdefgh", "abcdefgh"),
            ("both z new x", "new"), ("drop y", "y"), ("show y", "y"), ("walk y a", "y"), ("border y a 0", "y"),
            ("rooms y", "y"), ("tables y", "y"), ("first y by", "y"), ("compare y x", "y"), ("compare x y", "y"),
            ("compare z y", "z"), ("again y a a a", "y"), ("no y y", "y"),
        ):
            self.refused(desk, line, NoName, name=name)

    def test_no_name_ahead_of_what_stands_behind(self):
        desk = desk_with(x=EXAMPLE, one=ONE_SIGN)
        for line in ("walk y xyz", "border y c 999", "border y - 1", "again y c c c", "compare y one", "either x y one"):
            self.refused(desk, line, NoName, name="y")

    def test_no_text(self):
        desk = desk_with(x=EXAMPLE)
        for text, at in (
            ("", 0), (" ", 0), ("nonsense", 0), ("0,0>,by ", 1), (" 0,0>,by", 0), ("0,0>,by  0,0>,by", 1),
            ("0,0>,by 0,0>,by by", 2), ("5,5>,5 00,0>,by", 1), ("0,100>,by", 0), ("0,0>,0>,0>,0>,by", 0),
        ):
            for name in ("x", "new"):
                self.refused(desk, f"keep {name} {text}", NoText, at=at)

    def test_no_machine(self):
        desk = desk_with(x=EXAMPLE)
        for text, part, room in (
            (SIXTY + " 0,0>,0>,by", "rooms", 61), ("1,0>,by", "left", 0), ("0,0>,by 0,2<,by", "cell", 1),
            ("0,0>,by 0,0>,2", "right", 1), ("0,0>,by 0,0>,0>,by", "cells", 1),
        ):
            for name in ("x", "new"):
                self.refused(desk, f"keep {name} {text}", NoMachine, part=part, room=room)

    def test_no_strip(self):
        desk = desk_with(x=EXAMPLE, one=ONE_SIGN, many=TOO_MANY)
        for line, at in (
            ("walk x c", 0), ("walk x abc", 2), ("walk x a-", 1), ("walk x --", 0), ("walk one ab", 1), ("walk x A", 0),
            ("border x ac 0", 1), ("border x ac 9", 1), ("border x bbc 999", 2), ("again x c - -", 0),
            ("again x a bc -", 1), ("again x a a aac", 2), ("again x bac c abbc", 2), ("again x - ab- ---", 2),
            ("again many c - -", 0), ("again many - - bbc", 2), ("walk x none", 0),
        ):
            self.refused(desk, line, NoStrip, at=at)

    def test_no_border(self):
        desk = desk_with(x=EXAMPLE, at="by,0>,0>,out")
        for line in ("border x a 2", "border at ab 3", "border at - 1", "border x - 999", "border x bb 3"):
            self.refused(desk, line, NoBorder)

    def test_not_like_and_too_many(self):
        desk = desk_with(one=ONE_SIGN, two=EVEN, three=THREE_SIGNS, sixty=SIXTY, many=TOO_MANY, tables=TABLES_301,
                         stops=STOPPING_61)
        for line in ("either x one two", "both x two one", "both x sixty three", "either one one sixty",
                     "compare one two", "compare many one", "compare three many"):
            self.refused(desk, line, NotLike)
        for line in ("either x two sixty", "both x sixty two", "both two sixty sixty", "about x sixty", "about sixty sixty",
                     "compare many two", "compare two many", "rooms many", "first many by", "first many ever", "stop x many",
                     "stop many many", "stop x stops", "tables tables", "again many a - -", "again many - - -"):
            self.refused(desk, line, TooMany)

    def test_a_refused_line_can_be_told_again(self):
        desk = Desk()
        self.refused(desk, "no y x", NoName, name="x")
        self.answers(desk, f"keep x {EVEN}", "2", "no y x", "2")

    def test_each_stands_straight_under_way_error(self):
        for error in (NoBorder, NoLine, NoMachine, NoName, NoStrip, NoText, NothingDone, NotLike, NoWord, TooMany):
            self.assertEqual(error.__bases__, (WayError,))


if __name__ == "__main__":
    unittest.main()
