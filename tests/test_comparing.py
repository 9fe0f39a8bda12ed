import random
import unittest

from plainly import drawn_machines, drawn_reader, plain_room, plain_word, strips

from striproam.comparing import compared, held, shows_alike
from striproam.errors import NotLike, TooMany, WayError
from striproam.least import least
from striproam.machines import signs_of
from striproam.oneway import one_way, word_by
from striproam.texts import read_machine

EVEN = (((1, 0), (0, 1)), ("by", "out"))
# The same with rooms 0 and 2, 1 and 3 saying the same, and one that nothing leads to.
EVEN_TWICE = (((1, 2), (2, 3), (3, 0), (0, 1), (4, 4)), ("by", "out", "by", "out", "ever"))
STRAIGHT = read_machine("0,1>,0>,by 0,0>,1>,out")
BACKWARD = read_machine("0,0>,0>,1 by,2<,1<,by out,1<,2<,by")
ONE_SIGN = read_machine("0,0>,by")
THREE_SIGNS = read_machine("0,0>,0>,0>,by")
TOO_MANY = read_machine(
    "9,2>,6<,out 8,6>,4<,8 out,8<,4>,8 7,9>,3>,3 2,1<,2<,6 2,0<,9<,7 3,3>,2<,5 8,4<,0<,5 by,2<,8>,6 9,1>,9>,4"
)
HUGE = 10 ** 60 - 1


def ring(rooms, words=("by",)):
    return (
        tuple(((room + 1) % rooms,) for room in range(rooms)),
        tuple(words[room % len(words)] for room in range(rooms)),
    )


def changed(source, reader):
    """The same but for one word or one room to which a sign leads."""
    rows, words = [list(row) for row in reader[0]], list(reader[1])
    room = source.randrange(len(rows))
    if source.randrange(2):
        words[room] = source.choice(("by", "out", "ever"))
    else:
        rows[room][source.randrange(len(rows[0]))] = source.randrange(len(rows))
    return (tuple(tuple(row) for row in rows), tuple(words))


def drawn_pairs_of_readers(many, seed):
    source = random.Random(seed)
    for number in range(many):
        reader = drawn_reader(source, source.randint(1, 6), source.randint(1, 3), ("by", "by", "by", "out", "ever"))
        yield reader, source.choice((changed(source, reader), least(reader), changed(source, least(reader))))


def closed(one, other, pairs):
    """Whether it is such a list of pairs, asked part by part."""
    goals = [goal for pair in pairs for goal in zip(one[0][pair[0]], other[0][pair[1]])]
    words = [(one[1][pair[0]], other[1][pair[1]]) for pair in pairs]
    return (0, 0) in pairs and all(goal in pairs for goal in goals) and all(len(set(both)) == 1 for both in words)


def plain_unlike(one, other):
    for strip in strips(len(one[0][0]), 7):
        if one[1][plain_room(one, strip)] != other[1][plain_room(other, strip)]:
            return strip
    return None


class Held(unittest.TestCase):
    def test_alike_by_hand(self):
        word, pairs = held(EVEN, EVEN_TWICE)
        self.assertEqual(word, "alike")
        self.assertEqual(sorted(set(pairs)), [(0, 0), (0, 2), (1, 1), (1, 3)])
        word, pairs = held(EVEN_TWICE, EVEN)
        self.assertEqual(sorted(set(pairs)), [(0, 0), (1, 1), (2, 0), (3, 1)])
        self.assertEqual(held((((0,),), ("ever",)), (((0,),), ("ever",))), ("alike", [(0, 0)]))

    def test_unlike_by_hand(self):
        self.assertEqual(held((((0,),), ("ever",)), (((0,),), ("by",))), ("unlike", ""))
        self.assertEqual(held(EVEN, (((0, 0),), ("by",))), ("unlike", "a"))
        self.assertEqual(held(EVEN, (((1, 1), (0, 0)), ("by", "out"))), ("unlike", "b"))
        # Unlike at ab and at b: the shorter one is told; at bb and ba: the first by the alphabet.
        self.assertEqual(held((((0, 1), (0, 1)), ("by", "by")), (((0, 1), (0, 1)), ("by", "out"))), ("unlike", "b"))
        one = (((0, 1), (2, 2), (2, 2)), ("by", "by", "out"))
        self.assertEqual(held(one, (((0, 0),), ("by",))), ("unlike", "ba"))
        self.assertEqual(held((((0,), (1,)), ("by", "out")), (((0,), (0,)), ("by", "ever"))), ("alike", [(0, 0)]))

    def test_many_rooms(self):
        one, other = ring(199), ring(200)
        word, pairs = held(one, other)
        self.assertEqual([word, len(set(pairs))], ["alike", 199 * 200])
        self.assertTrue(shows_alike(one, other, pairs))
        last_out = (other[0], ("by",) * 199 + ("out",))
        self.assertEqual(held(one, last_out), ("unlike", "a" * 199))
        # Words come round with 9 and with 10 and are unlike only where both have their last one.
        one, other = ring(189, ("out",) * 8 + ("by",)), ring(190, ("out",) * 9 + ("by",))
        self.assertEqual(held(one, other), ("unlike", "a" * 8))

    def test_as_plainly_said(self):
        seen = set()
        alike = 0
        for one, other in drawn_pairs_of_readers(400, 120):
            for first, second in ((one, other), (other, one)):
                told = held(first, second)
                self.assertEqual([type(told), len(told)], [tuple, 2])
                if told[0] == "alike":
                    alike += 1
                    self.assertIs(type(told[1]), list)
                    self.assertEqual({type(pair) for pair in told[1]}, {tuple})
                    self.assertTrue(closed(first, second, told[1]))
                    self.assertIsNone(plain_unlike(first, second))
                else:
                    self.assertEqual(told, ("unlike", plain_unlike(first, second)))
                    seen.add(told[1])
        self.assertGreater(alike, 100)
        self.assertLess({"", "a", "b", "c", "aa", "ba"}, seen)

    def test_not_as_many_signs(self):
        for one, other in ((ring(2), EVEN), (EVEN, ring(1)), (EVEN, one_way(THREE_SIGNS)), (one_way(THREE_SIGNS), ring(1))):
            with self.assertRaises(NotLike) as caught:
                held(one, other)
            self.assertIsInstance(caught.exception, WayError)

    def test_the_told_list_is_the_askers_own(self):
        told = held(EVEN, EVEN_TWICE)
        asked = list(told[1])
        other = held(EVEN, EVEN_TWICE)
        told[1].clear()
        self.assertEqual(other[1], asked)
        other[1].append((7, 7))
        self.assertEqual(held(EVEN, EVEN_TWICE), ("alike", asked))
        kept = compared(STRAIGHT, BACKWARD)[1]
        before = list(kept)
        compared(STRAIGHT, BACKWARD)[1].reverse()
        held(EVEN, EVEN)[1].clear()
        self.assertEqual(kept, before)


class Compared(unittest.TestCase):
    def test_alike(self):
        word, pairs = compared(STRAIGHT, BACKWARD)
        self.assertEqual(word, "alike")
        self.assertTrue(closed(one_way(STRAIGHT), one_way(BACKWARD), pairs))
        self.assertTrue(shows_alike(one_way(STRAIGHT), one_way(BACKWARD), pairs))

    def test_unlike(self):
        self.assertEqual(compared(STRAIGHT, read_machine("0,0>,0>,by")), ("unlike", "a"))
        self.assertEqual(compared(STRAIGHT, read_machine("0,0>,0>,0")), ("unlike", ""))
        # Shut out and round for ever are unlike.
        self.assertEqual(compared(STRAIGHT, read_machine("0,1>,0>,by 0,0>,1>,1")), ("unlike", "a"))

    def test_drawn(self):
        alike = 0
        machines = drawn_machines(60, 2, seed=121) + drawn_machines(20, 1, seed=122)
        for one in machines:
            for other in machines[::7]:
                if signs_of(one) != signs_of(other):
                    self.assertRaises(NotLike, compared, one, other)
                    continue
                told = compared(one, other)
                self.assertEqual(told, held(one_way(one), one_way(other)))
                unlike = [strip for strip in strips(signs_of(one), 4) if plain_word(one, strip) != plain_word(other, strip)]
                if told[0] == "alike":
                    alike += 1
                    self.assertEqual(unlike, [])
                    self.assertTrue(closed(one_way(one), one_way(other), told[1]))
                else:
                    self.assertEqual([told[1]], unlike[:1] or [told[1]])
                    self.assertNotEqual(plain_word(one, told[1]), plain_word(other, told[1]))
        self.assertGreater(alike, 30)

    def test_refused(self):
        for one, other in ((ONE_SIGN, STRAIGHT), (THREE_SIGNS, STRAIGHT), (TOO_MANY, ONE_SIGN), (THREE_SIGNS, TOO_MANY)):
            self.assertRaises(NotLike, compared, one, other)
        for one, other in ((TOO_MANY, STRAIGHT), (STRAIGHT, TOO_MANY), (TOO_MANY, TOO_MANY)):
            self.assertRaises(TooMany, compared, one, other)


class ShowsAlike(unittest.TestCase):
    PAIRS = [(0, 0), (0, 2), (1, 1), (1, 3)]

    def test_right(self):
        for pairs in (
            self.PAIRS, self.PAIRS[::-1], self.PAIRS + self.PAIRS, [self.PAIRS[2]] + self.PAIRS,
            held(EVEN, EVEN_TWICE)[1],
        ):
            self.assertIs(shows_alike(EVEN, EVEN_TWICE, pairs), True)

    def test_more_pairs_than_needed(self):
        reader = (((0,), (2,), (2,), (3,)), ("by", "out", "out", "out"))
        needed = [(0, 0)]
        self.assertIs(shows_alike(reader, reader, needed), True)
        self.assertIs(shows_alike(reader, reader, needed + [(1, 2), (2, 2)]), True)
        self.assertIs(shows_alike(reader, reader, [(1, 3), (2, 3)] + needed), True)
        # Not closed, with a pair that is not needed.
        self.assertIs(shows_alike(reader, reader, needed + [(1, 3)]), False)

    def test_without_0_0(self):
        self.assertIs(shows_alike(EVEN, EVEN_TWICE, []), False)
        # Closed in itself, but room 0 of the other is not in it.
        reader = (((0,), (1,)), ("by", "by"))
        self.assertIs(shows_alike(reader, reader, [(0, 1)]), False)
        self.assertIs(shows_alike(reader, reader, [(1, 1)]), False)
        self.assertIs(shows_alike(reader, reader, [(1, 1), (0, 0)]), True)

    def test_a_sign_leaves_it(self):
        for at in range(1, 4):
            self.assertIs(shows_alike(EVEN, EVEN_TWICE, self.PAIRS[:at] + self.PAIRS[at + 1:]), False)
        # The last sign alone leaves it.
        reader = (((0, 0, 1), (1, 1, 1)), ("by", "by"))
        self.assertIs(shows_alike(reader, reader, [(0, 0)]), False)
        self.assertIs(shows_alike(reader, reader, [(0, 0), (1, 1)]), True)

    def test_unlike_words(self):
        other = (EVEN_TWICE[0], ("by", "out", "by", "ever", "ever"))
        self.assertIs(shows_alike(EVEN, other, self.PAIRS), False)
        alone = (((0,),), ("by",))
        self.assertIs(shows_alike(alone, (((0,),), ("out",)), [(0, 0)]), False)
        self.assertIs(shows_alike((((0,),), ("ever",)), (((0,),), ("ever",)), [(0, 0)]), True)
        # A pair that is not needed counts, too.
        reader = (((0,), (1,)), ("by", "out"))
        self.assertIs(shows_alike(reader, reader, [(0, 0), (0, 1), (1, 0)]), False)

    def test_numbers_that_are_no_room(self):
        for pair in (
            (-1, 0), (0, -1), (-1, -1), (-2, -2), (2, 0), (0, 2), (2, 2), (5, 1), (-HUGE, 0), (0, HUGE), (HUGE, HUGE),
        ):
            for pairs in ([(0, 0), (1, 1), pair], [pair, (0, 0), (1, 1)]):
                self.assertIs(shows_alike(EVEN, EVEN, pairs), False, pair)
        self.assertIs(shows_alike(EVEN, EVEN_TWICE, self.PAIRS + [(0, 5)]), False)
        self.assertIs(shows_alike(EVEN_TWICE, EVEN, [(two, one) for one, two in self.PAIRS] + [(0, 3)]), False)
        # Below 0, such a pair would be closed by the rooms counted from the end.
        self.assertIs(shows_alike(ring(1), ring(1), [(0, 0), (-1, -1)]), False)
        self.assertIs(shows_alike(ring(1), ring(1), [(0, 0), (0, -1)]), False)
        self.assertIs(shows_alike(ring(1), ring(1), [(0, 0), (-1, 0)]), False)

    def test_not_as_many_signs(self):
        two_signs = (((0, 0),), ("by",))
        for one, other in ((ring(1), two_signs), (two_signs, ring(1)), (two_signs, (((0, 0, 0),), ("by",)))):
            self.assertIs(shows_alike(one, other, [(0, 0)]), False)
            self.assertIs(shows_alike(one, other, []), False)

    def test_drawn(self):
        source = random.Random(123)
        right = 0
        for one, other in drawn_pairs_of_readers(300, 124):
            everywhere = [(two, three) for two in range(len(one[0])) for three in range(len(other[0]))]
            told = held(one, other)
            told = told[1] if told[0] == "alike" else everywhere
            for pairs in (
                told, told[:-1], told + [source.choice(everywhere)], everywhere,
                [pair for pair in everywhere if one[1][pair[0]] == other[1][pair[1]]],
            ):
                before = list(pairs)
                said = shows_alike(one, other, pairs)
                self.assertIs(said, closed(one, other, pairs))
                self.assertEqual(pairs, before)
                right += said
                if said:
                    self.assertEqual(held(one, other)[0], "alike")
                    for strip in strips(len(one[0][0]), 4):
                        self.assertEqual(word_by(one, strip), word_by(other, strip))
        self.assertGreater(right, 100)


if __name__ == "__main__":
    unittest.main()
