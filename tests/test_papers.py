import itertools
import random
import unittest

from plainly import drawn_machine, drawn_machines, drawn_strip, gone, looked_through, most_stands, strips

from striproam.errors import NoStrip
from striproam.machines import signs_of
from striproam.papers import holds
from striproam.texts import read_machine
from striproam.walks import walk

HUGE = int("9" * 60)
STRAIGHT = read_machine("0,0>,by")
BOTH_MARKS = read_machine("0,0>,1 2,1<,out 3,2>,3 by,3<,by")
TO_AND_FRO = read_machine("0,0>,1<,out 2,1<,2>,out out,2>,2>,by")
ROUND = read_machine("0,0>,1 0,1<,by")
WITHIN = read_machine("0,0>,1<,out out,0>,1>,out")


def with_border(borders, at, crossings):
    return borders[:at] + (tuple(crossings),) + borders[at + 1:]


def changed_at(crossings, rooms):
    """What a border's rooms become by one change: another room, one left out, one put in."""
    for at in range(len(crossings) + 1):
        for room in rooms:
            yield crossings[:at] + (room,) + crossings[at:]
            yield crossings[:at] + (room, room) + crossings[at:]
            if at < len(crossings) and room != crossings[at]:
                yield crossings[:at] + (room,) + crossings[at + 1:]
        if at < len(crossings):
            yield crossings[:at] + crossings[at + 1:]
            yield crossings[:at]
    for one, other in itertools.combinations(range(len(crossings)), 2):
        swapped = list(crossings)
        swapped[one], swapped[other] = swapped[other], swapped[one]
        yield tuple(swapped)


class PaperCase(unittest.TestCase):
    def is_right(self, machine, strip, paper):
        self.assertIs(holds(machine, strip, paper), True, (machine, strip, paper))

    def is_wrong(self, machine, strip, paper):
        self.assertIs(holds(machine, strip, paper), False, (machine, strip, paper))


class OwnPapers(PaperCase):
    def test_by_out_and_ever(self):
        self.is_right(STRAIGHT, "", ("by", ((0,),)))
        self.is_right(STRAIGHT, "aa", ("by", ((0,), (0,), (0,))))
        self.is_right(BOTH_MARKS, "a", ("by", ((0, 1, 2, 3), (0, 1, 2, 3))))
        self.is_right(read_machine("by,0>,out"), "aa", ("by", ((), (), ())))
        self.is_right(read_machine("out,0>,by"), "", ("out", ((),)))
        self.is_right(TO_AND_FRO, "aa", ("out", ((0,), (0,), (0,))))
        self.is_right(ROUND, "a", ("ever", 1, 0, 1, 5))
        self.is_right(WITHIN, "ab", ("ever", 2, 0, 2, 4))

    def test_of_each_walk(self):
        for machine in drawn_machines(150, 5, seed=20):
            for strip in strips(signs_of(machine), 3):
                self.is_right(machine, strip, walk(machine, strip).paper())

    def test_of_long_walks(self):
        source = random.Random(21)
        for number in range(40):
            machine = drawn_machine(source, 60, 3, 4)
            strip = drawn_strip(source, machine, 400)
            self.is_right(machine, strip, walk(machine, strip).paper())

    def test_asked_again(self):
        for paper, truth in ((("by", ((0,), (0,))), True), (("out", ((0,), (0,))), False), (("by", ()), False)):
            self.assertEqual([holds(STRAIGHT, "a", paper) for again in range(3)], [truth] * 3)


class WrongOfWalksThatStop(PaperCase):
    def test_the_other_word(self):
        self.is_wrong(STRAIGHT, "a", ("out", ((0,), (0,))))
        self.is_wrong(TO_AND_FRO, "aa", ("by", ((0,), (0,), (0,))))
        self.is_wrong(read_machine("by,0>,out"), "", ("out", ((),)))
        self.is_wrong(read_machine("out,0>,by"), "", ("by", ((),)))

    def test_a_border_left_out_or_one_too_many(self):
        self.is_wrong(STRAIGHT, "a", ("by", ((0,),)))
        self.is_wrong(STRAIGHT, "a", ("by", ()))
        self.is_wrong(STRAIGHT, "a", ("by", ((0,), (0,), ())))
        self.is_wrong(STRAIGHT, "a", ("by", ((), (0,), (0,))))
        self.is_wrong(STRAIGHT, "a", ("by", ((0,), (0,), (0,))))
        self.is_wrong(STRAIGHT, "", ("by", ()))
        self.is_wrong(STRAIGHT, "", ("by", ((0,),) * 401))
        self.is_wrong(read_machine("by,0>,out"), "a", ("by", ((), (), ())))
        self.is_right(STRAIGHT, "a" * 400, ("by", ((0,),) * 401))
        self.is_wrong(STRAIGHT, "a" * 399, ("by", ((0,),) * 401))

    def test_a_room_changed_left_out_or_put_in(self):
        own = walk(BOTH_MARKS, "a").borders
        self.assertEqual(own, ((0, 1, 2, 3), (0, 1, 2, 3)))
        for crossings in ((1, 1, 2, 3), (0, 1, 2), (1, 2, 3), (0, 1, 1, 2, 3), (0, 1, 3, 2), (0, 1, 2, 3, 0), (),
                          (2, 3, 0, 1), (0, 1, 2, 3, 0, 1), (0, 3), (-1, 1, 2, 3), (0, 1, 2, 4), (HUGE,), (-HUGE,)):
            for at in (0, 1):
                self.is_wrong(BOTH_MARKS, "a", ("by", with_border(own, at, crossings)))
            self.is_wrong(BOTH_MARKS, "a", ("by", (crossings, crossings)))

    def test_borders_of_any_length(self):
        self.is_wrong(STRAIGHT, "a", ("by", ((0,), (0,) * 100001)))
        self.is_wrong(STRAIGHT, "a", ("by", ((0, 0) * 30000 + (0,), (0, 0) * 30000 + (0,))))

    def test_each_change_of_one_border_or_of_two_beside_each_other(self):
        tried = 0
        for machine in drawn_machines(60, 3, seed=22, stops=35):
            rooms = (-1, *range(len(machine)), len(machine), HUGE)
            for strip in strips(signs_of(machine), 2):
                ending = walk(machine, strip)
                if not ending.stops():
                    continue
                word, own = ending.paper()
                self.is_wrong(machine, strip, ({"by": "out", "out": "by"}[word], own))
                changes = [list(dict.fromkeys(changed_at(crossings, rooms))) for crossings in own]
                for at, crossings in enumerate(own):
                    for change in changes[at]:
                        if change == crossings:
                            continue
                        tried += 1
                        self.is_wrong(machine, strip, (word, with_border(own, at, change)))
                for at in range(len(strip)):
                    for room in rooms:
                        for here, there in itertools.product((0, 1, 2), repeat=2):
                            both = with_border(own, at, own[at][:here] + (room, room) + own[at][here:])
                            both = with_border(both, at + 1, own[at + 1][:there] + (room, room) + own[at + 1][there:])
                            self.is_wrong(machine, strip, (word, both))
                for at in range(len(own)):
                    self.is_wrong(machine, strip, (word, own[:at] + own[at + 1:]))
                    self.is_wrong(machine, strip, (word, own[:at] + ((),) + own[at:]))
                    self.is_wrong(machine, strip, (word, own[:at] + own[at:at + 1] + own[at:]))
        self.assertGreater(tried, 5000)

    def test_borders_exchanged(self):
        own = walk(TO_AND_FRO, "ab").borders
        self.assertEqual(own, ((0, 1, 2), (0, 1, 2), (2,)))
        self.is_wrong(TO_AND_FRO, "ab", ("by", (own[0], own[2], own[1])))
        self.is_wrong(TO_AND_FRO, "ab", ("by", (own[2], own[1], own[0])))
        self.is_right(TO_AND_FRO, "ab", ("by", (own[1], own[0], own[2])))

    def test_all_short_papers_as_seen_place_by_place(self):
        right = 0
        short = [crossings for length in range(4) for crossings in itertools.product((0, 1, 2), repeat=length)]
        for machine in drawn_machines(40, 2, seed=23):
            for strip in ("", "a"):
                for borders in itertools.product(short, repeat=len(strip) + 1):
                    for word in ("by", "out"):
                        truth = looked_through(machine, strip, (word, borders))
                        right += truth
                        self.assertIs(holds(machine, strip, (word, borders)), truth)
        self.assertGreater(right, 30)

    def test_ever_of_a_walk_that_stops(self):
        for machine in (STRAIGHT, BOTH_MARKS):
            stands, word = gone(machine, "a", 100)
            self.assertEqual(word, "by")
            for first, again in itertools.product(range(-1, len(stands) + 2), repeat=2):
                place, room = stands[first % len(stands)]
                self.is_wrong(machine, "a", ("ever", place, room, first, again))


class WrongOfWalksForEver(PaperCase):
    def test_by_or_out(self):
        for word in ("by", "out"):
            self.is_wrong(ROUND, "", (word, ((),)))
            self.is_wrong(ROUND, "", (word, ((0, 1),)))
            self.is_wrong(ROUND, "a", (word, ((0, 1), (0, 1))))
            self.is_wrong(ROUND, "a", (word, ((0,), (0,))))
            self.is_wrong(ROUND, "a", (word, ()))
            self.is_wrong(WITHIN, "ab", (word, ((0,), (0, 1, 0), ())))

    def test_by_hand(self):
        # Its stands: (0, 0), then (1, 0), (2, 0), (1, 1), (0, 1) again and again; six stands can be.
        for stand, first, again, truth in (
            ((1, 0), 1, 5, True), ((2, 0), 2, 6, True), ((1, 0), 1, 4, False), ((1, 0), 2, 6, False),
            ((1, 1), 3, 7, False), ((0, 1), 4, 8, False), ((0, 0), 0, 4, False), ((0, 0), 0, 5, False),
            ((1, 0), 5, 1, False), ((1, 0), 1, 1, False), ((1, 0), 5, 5, False), ((1, 0), -3, 1, False),
            ((1, 0), 1, 9, False), ((1, 0), 1, HUGE, False), ((1, 0), -HUGE, 5, False), ((1, 0), HUGE, HUGE + 4, False),
            ((2, 1), 2, 6, False), ((3, 0), 2, 6, False), ((-1, 0), 1, 5, False), ((1, 2), 1, 5, False),
            ((1, -2), 1, 5, False), ((HUGE, 0), 1, 5, False), ((1, HUGE), 1, 5, False), ((1, -HUGE), 1, 5, False),
        ):
            self.assertIs(holds(ROUND, "a", ("ever", *stand, first, again)), truth, (stand, first, again))

    def test_the_greatest_number(self):
        # Round and round at both marks: (0, 0), (1, 0), and four stands can be.
        machine = read_machine("0,0>,0 1,1>,1")
        self.is_right(machine, "", ("ever", 0, 0, 0, 2))
        self.is_right(machine, "", ("ever", 0, 0, 0, 4))
        self.is_right(machine, "", ("ever", 0, 0, 2, 4))
        self.is_right(machine, "", ("ever", 1, 0, 1, 3))
        self.is_wrong(machine, "", ("ever", 1, 0, 1, 5))
        self.is_wrong(machine, "", ("ever", 1, 0, 3, 5))
        self.is_wrong(machine, "", ("ever", 0, 0, 0, 6))
        self.is_wrong(machine, "", ("ever", 0, 0, 2, 2))

    def test_each_stand_and_each_two_numbers(self):
        right = 0
        for machine in drawn_machines(60, 3, seed=24, stops=10):
            for strip in ("", "a", "aa", "a" + "abc"[signs_of(machine) - 1]):
                most = most_stands(machine, strip)
                stands, word = gone(machine, strip, most)
                if word is not None:
                    continue
                for first, again in itertools.product(range(-2, most + 4), repeat=2):
                    may = 0 <= first < again <= most and stands[first] == stands[again]
                    for stand in itertools.product(range(-1, len(strip) + 3), range(-1, len(machine) + 1)):
                        truth = may and stands[first] == stand
                        right += truth
                        self.assertIs(holds(machine, strip, ("ever", *stand, first, again)), truth)
        self.assertGreater(right, 1000)

    def test_numbers_where_a_list_would_be_read_from_its_end(self):
        for first in range(-8, 0):
            for again in range(-8, 7):
                for stand in ((0, 0), (1, 0), (2, 0), (1, 1), (0, 1)):
                    self.is_wrong(ROUND, "a", ("ever", *stand, first, again))


class Refused(PaperCase):
    def test_another_sign(self):
        for machine, bad in ((STRAIGHT, "b"), (ROUND, "b"), (TO_AND_FRO, "c"), (read_machine("by,0>,0>,0>,by"), "d")):
            for paper in (("by", ()), ("by", ((0,),)), ("out", ((), ())), ("ever", 0, 0, 0, 1), ("ever", 1, 0, 1, 5)):
                for strip, at in ((bad, 0), ("a" + bad + " ", 1), ("aa" + bad + "a", 2)):
                    with self.assertRaises(NoStrip) as caught:
                        holds(machine, strip, paper)
                    self.assertEqual(caught.exception.at, at)


if __name__ == "__main__":
    unittest.main()
