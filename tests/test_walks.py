import random
import unittest

from plainly import drawn_machine, drawn_machines, drawn_strip, plain_path, plain_word, strips

from striproam import walks
from striproam.errors import NoMachine, NoStrip, NoText, TooMany
from striproam.machines import signs_of
from striproam.texts import read_machine
from striproam.walks import Ending, ForEver, LetBy, ShutOut, path, sayer, walk

AT_ONCE = read_machine("out,0>,by")
STRAIGHT = read_machine("0,0>,by")
# Room 0 goes on, room 1 back; each time it is turned about at a mark: 0, 1, 2, 3.
BOTH_MARKS = read_machine("0,0>,1 2,1<,out 3,2>,3 by,3<,by")
# On over a in room 0 and back over b in room 1, then on over all in room 2.
TO_AND_FRO = read_machine("0,0>,1<,out 2,1<,2>,out out,2>,2>,by")
EVER_AT_ONCE = read_machine("0,0<,by")
# Round between both marks; the first stand, (0, 0), does not come again.
ROUND = read_machine("0,0>,1 0,1<,by")
# Round on two signs alone, from the second one on.
WITHIN = read_machine("0,0>,1<,out out,0>,1>,out")

KINDS = {"by": LetBy, "out": ShutOut, "ever": ForEver}


class Paths(unittest.TestCase):
    def told(self, machine, strip, stands):
        self.assertEqual(path(machine, strip), stands)

    def test_stops_at_once_at_the_left_mark(self):
        for strip in ("", "a", "aa", "a" * 400):
            self.told(AT_ONCE, strip, [(0, 0)])

    def test_stops_at_the_right_mark(self):
        self.told(STRAIGHT, "", [(0, 0), (1, 0)])
        self.told(STRAIGHT, "a", [(0, 0), (1, 0), (2, 0)])
        self.told(STRAIGHT, "aaa", [(0, 0), (1, 0), (2, 0), (3, 0), (4, 0)])
        self.told(STRAIGHT, "a" * 400, [(place, 0) for place in range(402)])

    def test_turns_inward_at_both_marks(self):
        self.told(BOTH_MARKS, "", [(0, 0), (1, 0), (0, 1), (1, 2), (0, 3)])
        self.told(BOTH_MARKS, "a", [(0, 0), (1, 0), (2, 0), (1, 1), (0, 1), (1, 2), (2, 2), (1, 3), (0, 3)])
        self.told(
            BOTH_MARKS, "aa",
            [(0, 0), (1, 0), (2, 0), (3, 0), (2, 1), (1, 1), (0, 1), (1, 2), (2, 2), (3, 2), (2, 3), (1, 3), (0, 3)],
        )

    def test_goes_to_and_fro_on_the_signs(self):
        self.told(TO_AND_FRO, "", [(0, 0), (1, 0)])
        self.told(TO_AND_FRO, "b", [(0, 0), (1, 0), (0, 1), (1, 2), (2, 2)])
        self.told(TO_AND_FRO, "ab", [(0, 0), (1, 0), (2, 0), (1, 1), (0, 1), (1, 2), (2, 2), (3, 2)])
        self.told(
            TO_AND_FRO, "aab",
            [(0, 0), (1, 0), (2, 0), (3, 0), (2, 1), (1, 1), (0, 1), (1, 2), (2, 2), (3, 2), (4, 2)],
        )

    def test_goes_round_for_ever(self):
        self.told(EVER_AT_ONCE, "", [(0, 0), (1, 0)])
        self.told(EVER_AT_ONCE, "a", [(0, 0), (1, 0), (0, 0)])
        self.told(EVER_AT_ONCE, "aaa", [(0, 0), (1, 0), (0, 0)])
        self.told(ROUND, "", [(0, 0), (1, 0), (0, 1), (1, 0)])
        self.told(ROUND, "a", [(0, 0), (1, 0), (2, 0), (1, 1), (0, 1), (1, 0)])
        self.told(WITHIN, "ab", [(0, 0), (1, 0), (2, 0), (1, 1), (2, 0)])
        self.told(WITHIN, "aab", [(0, 0), (1, 0), (2, 0), (3, 0), (2, 1), (3, 0)])

    def test_the_strip_without_signs_has_two_places(self):
        self.told(read_machine("1,0<,by 0,1<,2 by,0>,by"), "", [(0, 0), (1, 1), (0, 2)])
        self.told(read_machine("0,0<,0"), "", [(0, 0), (1, 0), (0, 0)])

    def test_the_third_sign_and_its_cell(self):
        machine = read_machine("0,1>,2>,3>,out 1,1>,1>,1>,out 2,2>,2>,2>,out 3,3>,3>,3>,by")
        for sign, room in zip("abc", (1, 2, 3)):
            self.told(machine, sign, [(0, 0), (1, 0), (2, room)])

    def test_as_plainly_said(self):
        for machine in drawn_machines(150, 5, seed=8):
            for strip in strips(signs_of(machine), 4):
                self.told(machine, strip, plain_path(machine, strip))

    def test_just_the_last_stand_of_a_walk_for_ever_stands_twice(self):
        seen = 0
        for machine in drawn_machines(150, 5, seed=9, stops=15):
            for strip in strips(signs_of(machine), 4):
                stands = path(machine, strip)
                if plain_word(machine, strip) == "ever":
                    seen += 1
                    self.assertEqual(stands.count(stands[-1]), 2)
                    self.assertEqual(len(set(stands)), len(stands) - 1)
                else:
                    self.assertEqual(len(set(stands)), len(stands))
        self.assertGreater(seen, 1000)

    def test_many_rooms_and_signs(self):
        source = random.Random(10)
        for number in range(30):
            machine = drawn_machine(source, 60, 3, 3)
            strip = drawn_strip(source, machine, 40)
            self.told(machine, strip, plain_path(machine, strip))

    def test_the_longest_path(self):
        # Sixty times over 400 signs, then round.
        sweeps = [f"{(room + 1) % 60},{room}{'<' if room % 2 else '>'},{(room + 1) % 60}" for room in range(60)]
        sweeps[0] = "0,0>,1"
        stands = path(read_machine(" ".join(sweeps)), "a" * 400)
        self.assertEqual(len(stands), 60 * 401 + 2)
        self.assertEqual(stands[-1], stands[1])
        self.assertEqual(len(path(read_machine(" ".join(sweeps)), "a" * 3000)), 60 * 3001 + 2)

    def test_kinds(self):
        for machine, strip in ((BOTH_MARKS, "aa"), (ROUND, "a"), (AT_ONCE, "")):
            stands = path(machine, strip)
            self.assertIs(type(stands), list)
            for stand in stands:
                self.assertIs(type(stand), tuple)
                self.assertEqual([type(number) for number in stand], [int, int])

    def test_the_told_list_is_the_askers_own(self):
        told = path(ROUND, "a")
        asked = list(told)
        other = path(ROUND, "a")
        told.reverse()
        told.append("more")
        self.assertEqual(other, asked)
        self.assertEqual(path(ROUND, "a"), asked)
        other.clear()
        self.assertEqual(path(ROUND, "a"), asked)
        kept = path(ROUND, "a")
        path(ROUND, "aa")
        walk(ROUND, "a")
        self.assertEqual(kept, asked)


class Endings(unittest.TestCase):
    def told(self, machine, strip, kind, **values):
        ending = walk(machine, strip)
        self.assertIs(type(ending), kind)
        self.assertEqual(vars(ending), values)

    def test_each_stands_straight_under_ending_alone(self):
        self.assertEqual(Ending.__bases__, (object,))
        for kind in (LetBy, ShutOut, ForEver):
            self.assertEqual(kind.__bases__, (Ending,))

    def test_there_are_just_these(self):
        found = {value for value in vars(walks).values() if isinstance(value, type)}
        self.assertEqual(found, {Ending, LetBy, ShutOut, ForEver})

    def test_let_by(self):
        self.told(STRAIGHT, "", LetBy, place=1, room=0, borders=((0,),))
        self.told(STRAIGHT, "aa", LetBy, place=3, room=0, borders=((0,), (0,), (0,)))
        self.told(read_machine("by,0>,out"), "aa", LetBy, place=0, room=0, borders=((), (), ()))
        self.told(BOTH_MARKS, "a", LetBy, place=0, room=3, borders=((0, 1, 2, 3), (0, 1, 2, 3)))
        self.told(TO_AND_FRO, "ab", LetBy, place=3, room=2, borders=((0, 1, 2), (0, 1, 2), (2,)))

    def test_shut_out(self):
        self.told(AT_ONCE, "", ShutOut, place=0, room=0, borders=((),))
        self.told(AT_ONCE, "aaa", ShutOut, place=0, room=0, borders=((), (), (), ()))
        self.told(TO_AND_FRO, "", ShutOut, place=1, room=0, borders=((0,),))
        self.told(TO_AND_FRO, "aa", ShutOut, place=3, room=0, borders=((0,), (0,), (0,)))

    def test_for_ever(self):
        self.told(EVER_AT_ONCE, "a", ForEver, place=0, room=0, first=0, again=2)
        self.told(ROUND, "", ForEver, place=1, room=0, first=1, again=3)
        self.told(ROUND, "a", ForEver, place=1, room=0, first=1, again=5)
        self.told(WITHIN, "ab", ForEver, place=2, room=0, first=2, again=4)
        self.told(WITHIN, "aaab", ForEver, place=4, room=0, first=4, again=6)

    def test_says_stops_paper(self):
        for machine, strip, word, stops, paper in (
            (STRAIGHT, "a", "by", True, ("by", ((0,), (0,)))),
            (BOTH_MARKS, "", "by", True, ("by", ((0, 1, 2, 3),))),
            (AT_ONCE, "a", "out", True, ("out", ((), ()))),
            (TO_AND_FRO, "", "out", True, ("out", ((0,),))),
            (ROUND, "a", "ever", False, ("ever", 1, 0, 1, 5)),
            (WITHIN, "ab", "ever", False, ("ever", 2, 0, 2, 4)),
        ):
            ending = walk(machine, strip)
            self.assertEqual(ending.says(), word)
            self.assertIs(ending.stops(), stops)
            self.assertEqual(ending.paper(), paper)
            self.assertIs(type(ending.paper()), tuple)

    def test_as_the_path_tells(self):
        found = {"by": 0, "out": 0, "ever": 0}
        for machine in drawn_machines(200, 5, seed=11):
            for strip in strips(signs_of(machine), 4):
                word = plain_word(machine, strip)
                found[word] += 1
                stands = plain_path(machine, strip)
                ending = walk(machine, strip)
                self.assertIs(type(ending), KINDS[word])
                self.assertEqual(ending.says(), word)
                self.assertEqual((ending.place, ending.room), stands[-1])
                if word == "ever":
                    numbers = [number for number, stand in enumerate(stands) if stand == stands[-1]]
                    self.assertEqual([ending.first, ending.again], numbers)
                    self.assertEqual(ending.paper(), (word, *stands[-1], *numbers))
                else:
                    self.assertEqual(ending.paper(), (word, ending.borders))
        self.assertGreater(min(found.values()), 1000)

    def test_asked_again_the_same(self):
        for machine, strip in ((BOTH_MARKS, "aa"), (AT_ONCE, "a"), (ROUND, "aa")):
            one = walk(machine, strip)
            path(machine, strip).clear()
            walk(machine, strip + "a")
            other = walk(machine, strip)
            self.assertIs(type(one), type(other))
            self.assertEqual(vars(one), vars(other))
            self.assertEqual((one.says(), one.stops(), one.paper()), (other.says(), other.stops(), other.paper()))


class Borders(unittest.TestCase):
    def told(self, machine, strip, borders):
        self.assertEqual(walk(machine, strip).borders, borders)

    def test_nothing_crosses(self):
        self.told(AT_ONCE, "", ((),))
        self.told(AT_ONCE, "aa", ((), (), ()))

    def test_nothing_crosses_the_later_ones(self):
        machine = read_machine("0,0>,1<,out by,1<,1<,out")
        self.told(machine, "abaa", ((0, 1), (0, 1), (), (), ()))
        self.told(machine, "b", ((0, 1), ()))

    def test_rooms_gone_into_with_the_steps(self):
        # Each room is left for another one, so that rooms left and gone into are told apart.
        machine = read_machine("1,0>,0>,by 0,2>,0>,by 0,0>,3<,by 0,4>,0>,by 0,0>,5>,by 0,0>,0>,out")
        self.assertEqual(path(machine, "ab"), [(0, 0), (1, 1), (2, 2), (1, 3), (2, 4), (3, 5)])
        self.told(machine, "ab", ((1,), (2, 3, 4), (5,)))

    def test_on_and_back_take_turns(self):
        for machine in drawn_machines(150, 5, seed=12):
            for strip in strips(signs_of(machine), 4):
                ending = walk(machine, strip)
                if not ending.stops():
                    self.assertFalse(hasattr(ending, "borders"))
                    continue
                stands = path(machine, strip)
                self.assertIs(type(ending.borders), tuple)
                self.assertEqual(len(ending.borders), len(strip) + 1)
                steps = list(zip(stands, stands[1:]))
                for border, crossings in enumerate(ending.borders):
                    self.assertIs(type(crossings), tuple)
                    on = [to[1] for here, to in steps if (here[0], to[0]) == (border, border + 1)]
                    back = [to[1] for here, to in steps if (here[0], to[0]) == (border + 1, border)]
                    self.assertEqual(list(crossings[::2]), on)
                    self.assertEqual(list(crossings[1::2]), back)
                    self.assertEqual((len(set(on)), len(set(back))), (len(on), len(back)))

    def test_one_room_may_go_both_ways(self):
        machine = read_machine("0,1<,out 0,0>,out")
        self.assertFalse(walk(machine, "a").stops())
        self.told(read_machine("1,1<,out by,1<,out"), "a", ((1, 1), ()))


class Sayers(unittest.TestCase):
    def test_several_strips(self):
        word_of = sayer(TO_AND_FRO)
        for strip, word in (("", "out"), ("a", "out"), ("b", "by"), ("ab", "by"), ("aa", "out"), ("", "out")):
            self.assertEqual(word_of(strip), word)
        self.assertEqual([sayer(ROUND)(strip) for strip in ("", "a", "aa")], ["ever"] * 3)
        self.assertEqual([sayer(EVER_AT_ONCE)(strip) for strip in ("", "a")], ["by", "ever"])

    def test_two_sayers_beside_each_other(self):
        one, other = sayer(AT_ONCE), sayer(STRAIGHT)
        self.assertEqual([one(""), other(""), one("a"), other("a")], ["out", "by", "out", "by"])

    def test_as_plainly_said(self):
        for machine in drawn_machines(60, 5, seed=13):
            word_of = sayer(machine)
            for strip in strips(signs_of(machine), 4):
                self.assertEqual(word_of(strip), plain_word(machine, strip))

    def test_after_a_refusal(self):
        word_of = sayer(STRAIGHT)
        with self.assertRaises(NoStrip):
            word_of("b")
        self.assertEqual(word_of("a"), "by")


class Refused(unittest.TestCase):
    def test_another_sign(self):
        # Some never come to the other sign: it is refused all the same.
        machines = (AT_ONCE, STRAIGHT, ROUND, EVER_AT_ONCE, TO_AND_FRO, WITHIN, read_machine("by,0>,0>,0>,by"))
        for machine in machines:
            known = "abc"[:signs_of(machine)]
            for ask in (path, walk, lambda machine, strip: sayer(machine)(strip)):
                for bad in ("d", "A", " ", "-", "0", "~", "c" if len(known) < 3 else "e"):
                    for strip, at in ((bad, 0), ("a" + bad, 1), (known + bad + "a" + bad, len(known)),
                                      ("a" * 400 + bad, 400)):
                        with self.assertRaises(NoStrip) as caught:
                            ask(machine, strip)
                        self.assertEqual(caught.exception.at, at)
                        self.assertNotIsInstance(caught.exception, (NoMachine, NoText, TooMany))


if __name__ == "__main__":
    unittest.main()
