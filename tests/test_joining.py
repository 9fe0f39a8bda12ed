import random
import unittest

from plainly import drawn_machine, drawn_machines, drawn_strip, plain_word, strips

from striproam.errors import NotLike, TooMany, WayError
from striproam.joining import both, either, swapped, turned_about
from striproam.least import least_of
from striproam.machines import machine_of, signs_of
from striproam.texts import machine_text, read_machine
from striproam.walks import walk

OTHER_WORD = {"by": "out", "out": "by", "ever": "ever"}
# Says by, out, ever by the first sign a, b, c, without signs by; the second by the last sign, without signs out.
BY_FIRST = read_machine("0,1>,2>,3>,by 0,1>,1>,1>,by 0,2>,2>,2>,out 0,3>,3>,3>,3")
BY_LAST = read_machine("0,1>,2>,3>,out 0,1>,2>,3>,by 0,1>,2>,3>,out 0,1>,2>,3>,3")
# The same as BY_FIRST of strips with signs, but stops at the left mark.
BY_FIRST_AT_THE_LEFT = read_machine("0,1<,2<,3>,by by,0>,0>,0>,by out,0>,0>,0>,by 3,3>,3>,3>,3")
ONE_SIGN = read_machine("0,0>,by")
TWO_SIGNS = read_machine("0,0>,0>,by")


def plain_either(first, second):
    return second if first == "out" else first


def plain_both(first, second):
    return second if first == "by" else first


def straight(rooms, signs=1):
    return machine_of([[0, [[0, 1]] * signs, "by"]] * rooms)


class Swapped(unittest.TestCase):
    def test_by_hand(self):
        self.assertEqual(machine_text(swapped(read_machine("1,0>,1<,out by,1>,0>,0"))), "1,0>,1<,by out,1>,0>,0")
        self.assertEqual(swapped(read_machine("by,0<,by")), (("out", ((0, -1),), "out"),))
        self.assertEqual(swapped(read_machine("0,0>,0")), ((0, ((0, 1),), 0),))

    def test_twice_it_is_the_machine(self):
        for machine in drawn_machines(60, 8, seed=150):
            self.assertEqual(swapped(swapped(machine)), machine)
            self.assertEqual(machine_of(swapped(machine)), swapped(machine))
            for row, other in zip(machine, swapped(machine)):
                self.assertEqual(row[1], other[1])
                for end in (0, 2):
                    self.assertEqual(other[end], OTHER_WORD.get(row[end], row[end]))

    def test_what_it_says(self):
        seen = set()
        for machine in drawn_machines(60, 4, seed=151):
            for strip in strips(signs_of(machine), 4):
                word = plain_word(machine, strip)
                seen.add(word)
                self.assertEqual(plain_word(swapped(machine), strip), OTHER_WORD[word])
        self.assertEqual(seen, {"by", "out", "ever"})

    def test_60_rooms(self):
        machine = drawn_machine(random.Random(152), 60, 3, 50)
        self.assertEqual(len(swapped(machine)), 60)


class Joined(unittest.TestCase):
    JOINS = ((either, plain_either), (both, plain_both))

    def check(self, join, plain, one, two, strip):
        told = join(one, two)
        self.assertEqual(plain_word(told, strip), plain(plain_word(one, strip), plain_word(two, strip)))

    def test_all_pairs_of_words(self):
        for one in (BY_FIRST, BY_FIRST_AT_THE_LEFT):
            for join, plain in self.JOINS:
                seen = set()
                for strip in strips(3, 4):
                    seen.add((plain_word(one, strip), plain_word(BY_LAST, strip)))
                    self.check(join, plain, one, BY_LAST, strip)
                    self.check(join, plain, BY_LAST, one, strip)
                    self.check(join, plain, one, one, strip)
                self.assertEqual(len(seen), 9)

    def test_by_hand_word_by_word(self):
        told = {strip: walk(either(BY_FIRST, BY_LAST), strip).says() for strip in strips(3, 2)}
        self.assertEqual([told[strip] for strip in ("ab", "ba", "bb", "bc", "ca", "cb", "ac", "")],
                         ["by", "by", "out", "ever", "ever", "ever", "by", "by"])
        told = {strip: walk(both(BY_FIRST, BY_LAST), strip).says() for strip in strips(3, 2)}
        self.assertEqual([told[strip] for strip in ("ab", "ba", "aa", "ac", "ca", "cb", "bc", "")],
                         ["out", "out", "by", "ever", "ever", "ever", "out", "out"])

    def test_stopping_at_once(self):
        for first in ("by", "out", "0"):
            for second in ("by", "out", "0"):
                one, two = read_machine(f"{first},0>,0"), read_machine(f"{second},0>,0")
                for join, plain in self.JOINS:
                    for strip in ("", "a", "aaa"):
                        self.check(join, plain, one, two, strip)

    def test_drawn(self):
        source = random.Random(153)
        seen = set()
        for number in range(150):
            signs = source.randint(1, 3)
            one = drawn_machine(source, source.randint(1, 5), signs, 40)
            two = drawn_machine(source, source.randint(1, 5), signs, 40)
            for join, plain in self.JOINS:
                told = join(one, two)
                self.assertEqual(len(told), len(one) + len(two) + 1)
                self.assertEqual(signs_of(told), signs)
                self.assertEqual(machine_of(told), told)
                for strip in [*strips(signs, 3), drawn_strip(source, one, 60)]:
                    words = (plain_word(one, strip), plain_word(two, strip))
                    seen.add(words)
                    self.assertEqual(plain_word(told, strip), plain(*words))
        self.assertEqual(len(seen), 9)

    def test_joined_again(self):
        for join, plain in self.JOINS:
            told = join(join(BY_FIRST, BY_LAST), join(BY_LAST, BY_FIRST_AT_THE_LEFT))
            for strip in strips(3, 3):
                first, last, left = [plain_word(part, strip) for part in (BY_FIRST, BY_LAST, BY_FIRST_AT_THE_LEFT)]
                self.assertEqual(plain_word(told, strip), plain(plain(first, last), plain(last, left)))

    def test_just_60_rooms_and_61(self):
        for join, plain in self.JOINS:
            for rooms in ((29, 30), (58, 1), (1, 58)):
                told = join(straight(rooms[0]), straight(rooms[1]))
                self.assertEqual(len(told), 60)
                self.assertEqual(machine_of(told), told)
            for rooms in ((30, 30), (59, 1), (1, 59), (60, 60), (60, 1)):
                with self.assertRaises(TooMany) as caught:
                    join(straight(rooms[0]), straight(rooms[1]))
                self.assertIsInstance(caught.exception, WayError)

    def test_60_rooms_drawn(self):
        source = random.Random(154)
        for number in range(6):
            one, two = drawn_machine(source, 29, 2, 40), drawn_machine(source, 30, 2, 40)
            for join, plain in self.JOINS:
                for length in (0, 1, 5, 40):
                    self.check(join, plain, one, two, drawn_strip(source, one, length))

    def test_not_as_many_signs(self):
        for one, two in (
            (ONE_SIGN, TWO_SIGNS), (TWO_SIGNS, ONE_SIGN), (BY_FIRST, TWO_SIGNS), (ONE_SIGN, BY_LAST),
            (straight(60, 1), straight(60, 2)), (straight(60, 3), straight(30, 2)),
        ):
            for join, plain in self.JOINS:
                with self.assertRaises(NotLike) as caught:
                    join(one, two)
                self.assertIsInstance(caught.exception, WayError)


class TurnedAbout(unittest.TestCase):
    def test_by_hand(self):
        # What is said by the first sign is then said by the last one, and the other way round.
        for one, other in ((BY_FIRST, BY_LAST), (BY_LAST, BY_FIRST), (BY_FIRST_AT_THE_LEFT, BY_LAST)):
            told = turned_about(one)
            for strip in strips(3, 4):
                if strip:
                    self.assertEqual(walk(told, strip).says(), plain_word(other, strip))
                self.assertEqual(walk(told, strip).says(), plain_word(one, strip[::-1]))

    def test_stopping_at_once(self):
        for word in ("by", "out"):
            told = turned_about(read_machine(f"{word},0>,0"))
            self.assertEqual([walk(told, "a" * many).says() for many in (0, 1, 5)], [word] * 3)

    def test_drawn(self):
        source = random.Random(155)
        seen = set()
        for machine in drawn_machines(120, 6, seed=156):
            told = turned_about(machine)
            self.assertEqual(len(told), len(machine) + 1)
            self.assertEqual(signs_of(told), signs_of(machine))
            self.assertEqual(machine_of(told), told)
            for strip in [*strips(signs_of(machine), 4), drawn_strip(source, machine, 80)]:
                word = plain_word(machine, strip[::-1])
                seen.add(word)
                self.assertEqual(plain_word(told, strip), word)
        self.assertEqual(seen, {"by", "out", "ever"})

    def test_twice_it_says_the_same(self):
        for machine in drawn_machines(40, 2, seed=157):
            self.assertEqual(least_of(turned_about(turned_about(machine))), least_of(machine))

    def test_59_rooms_and_60(self):
        source = random.Random(158)
        for number in range(6):
            machine = drawn_machine(source, 59, 2, 20)
            told = turned_about(machine)
            self.assertEqual(len(told), 60)
            self.assertEqual(machine_of(told), told)
            for length in (0, 1, 2, 30):
                strip = drawn_strip(source, machine, length)
                self.assertEqual(plain_word(told, strip), plain_word(machine, strip[::-1]))
            with self.assertRaises(TooMany) as caught:
                turned_about(drawn_machine(source, 60, 2, 20))
            self.assertIsInstance(caught.exception, WayError)


if __name__ == "__main__":
    unittest.main()
