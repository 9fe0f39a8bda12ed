import random
import unittest

from plainly import drawn_machines, drawn_reader, plain_room, strips

from striproam.errors import TooMany
from striproam.least import lead, least, least_of, parting
from striproam.machines import signs_of
from striproam.oneway import one_way, room_by, word_by
from striproam.texts import read_machine

EXAMPLE = read_machine("1,0>,1<,out 0,1>,0>,by")
MANY_BEGINNINGS = read_machine(
    "9,2>,6<,out 8,6>,4<,8 out,8<,4>,8 7,9>,3>,3 2,1<,2<,6 2,0<,9<,7 3,3>,2<,5 8,4<,0<,5 by,2<,8>,6 9,1>,9>,4"
)
WORDS = ("by", "out", "ever")


def ring(rooms, words):
    """Of one sign, its words coming round."""
    return (
        tuple(((room + 1) % rooms,) for room in range(rooms)),
        tuple(words[room % len(words)] for room in range(rooms)),
    )


def renumbered(source, reader):
    """The same with its rooms, but for room 0, in another order."""
    rows, words = reader
    numbers = [0] + source.sample(range(1, len(rows)), len(rows) - 1)
    new_rows, new_words = [None] * len(rows), [None] * len(rows)
    for room, number in enumerate(numbers):
        new_rows[number] = tuple(numbers[there] for there in rows[room])
        new_words[number] = words[room]
    return (tuple(new_rows), tuple(new_words))


def widened(source, reader, many):
    """The same with so many rooms more: some say what another one says, to some of them nothing leads."""
    rows, words = [list(row) for row in reader[0]], list(reader[1])
    says_like = list(range(len(rows)))
    for number in range(many):
        like = source.randrange(len(reader[0]))
        says_like.append(like)
        words.append(words[like])
        rows.append([None] * len(rows[0]))
    for room, row in enumerate(rows):
        for sign in range(len(row)):
            goal = reader[0][says_like[room]][sign]
            row[sign] = source.choice([there for there, like in enumerate(says_like) if like == goal])
    return (tuple(tuple(row) for row in rows), tuple(words))


def plain_pairs_parted(reader):
    """Of each two rooms whether they are parted, by marking what one sign leads to the parted."""
    rows, words = reader
    rooms = range(len(rows))
    parted = {(one, other): words[one] != words[other] for one in rooms for other in rooms}
    while True:
        more = [
            pair for pair in parted
            if not parted[pair] and any(parted[goal] for goal in zip(rows[pair[0]], rows[pair[1]]))
        ]
        if not more:
            return parted
        for pair in more:
            parted[pair] = True


def plain_led_to(reader):
    """The first strip that leads to each room, found by trying strips in their order."""
    found = {}
    for strip in strips(len(reader[0][0]), len(reader[0]) - 1):
        found.setdefault(plain_room(reader, strip), strip)
    return found


def plain_parting(reader, one, other):
    for strip in strips(len(reader[0][0]), len(reader[0]) - 1):
        if reader[1][plain_room(reader, strip, one)] != reader[1][plain_room(reader, strip, other)]:
            return strip
    return None


def drawn_readers(many, most_rooms, seed, words=WORDS):
    source = random.Random(seed)
    return [drawn_reader(source, source.randint(1, most_rooms), source.randint(1, 3), words) for number in range(many)]


class Least(unittest.TestCase):
    def test_one_room(self):
        for word in WORDS:
            for signs in (1, 2, 3):
                alone = (((0,) * signs,), (word,))
                self.assertEqual(least(alone), alone)
                self.assertEqual(least((((1,) * signs, (0,) * signs), (word, word))), alone)

    def test_rooms_that_nothing_leads_to(self):
        self.assertEqual(least((((0, 2), (0, 1), (2, 0)), ("by", "ever", "out"))), (((0, 1), (1, 0)), ("by", "out")))
        self.assertEqual(least((((0,), (0,), (1,)), ("by", "out", "ever"))), (((0,),), ("by",)))

    def test_rooms_that_say_the_same(self):
        reader = (((1, 2), (2, 1), (1, 1), (0, 0)), ("by", "out", "out", "ever"))
        self.assertEqual(least(reader), (((1, 1), (1, 1)), ("by", "out")))
        self.assertEqual(least(ring(200, ("by", "out", "out", "ever"))), ring(4, ("by", "out", "out", "ever")))
        # Room 0 is not alone: room 3 says the same as it.
        self.assertEqual(least((((1,), (2,), (3,), (1,)), ("by", "out", "out", "by"))), ring(3, ("by", "out", "out")))

    def test_the_same_word_but_unlike_further_on(self):
        reader = (((1, 2), (3, 3), (3, 0), (3, 3)), ("by", "by", "by", "out"))
        self.assertEqual(least(reader), (((1, 2), (3, 3), (3, 0), (3, 3)), ("by", "by", "by", "out")))
        far = (tuple((min(room + 1, 199),) for room in range(200)), ("out",) * 199 + ("by",))
        self.assertEqual(least(far), far)

    def test_rooms_in_another_order(self):
        told = (((1, 2), (0, 3), (2, 2), (3, 1)), ("by", "out", "ever", "by"))
        self.assertEqual(least(told), told)
        self.assertEqual(least((((3, 2), (1, 3), (2, 2), (0, 1)), ("by", "by", "ever", "out"))), told)

    def test_each_word_counts(self):
        for one in WORDS:
            for other in WORDS:
                told = least((((0, 1), (1, 1)), (one, other)))
                self.assertEqual(len(told[0]), 1 if one == other else 2)

    def test_says_the_same_with_the_fewest_rooms_numbered_as_first_reached(self):
        for reader in drawn_readers(150, 9, 100, ("by", "by", "out", "ever")):
            told = least(reader)
            for strip in strips(len(reader[0][0]), 5):
                self.assertEqual(word_by(told, strip), word_by(reader, strip))
            parted = plain_pairs_parted(reader)
            reached = {0}
            while not reached >= {there for room in reached for there in reader[0][room]}:
                reached |= {there for room in reached for there in reader[0][room]}
            fewest = [room for room in reached if not any(other < room and not parted[room, other] for other in reached)]
            self.assertEqual(len(told[0]), len(fewest))
            self.assertEqual(len(told[1]), len(fewest))
            order = list(dict.fromkeys([0] + [room for row in told[0] for room in row]))
            self.assertEqual(order, list(range(len(fewest))))

    def test_of_the_least_itself(self):
        for reader in drawn_readers(60, 12, 101):
            told = least(reader)
            self.assertEqual(least(told), told)
            self.assertEqual(least(reader), told)

    def test_one_for_all_that_say_the_same(self):
        source = random.Random(102)
        changed = 0
        for reader in drawn_readers(80, 8, 103):
            told = least(reader)
            for other in (
                renumbered(source, reader), widened(source, reader, 3), widened(source, told, 20),
                renumbered(source, widened(source, reader, 190)),
            ):
                changed += other != reader
                self.assertEqual(least(other), told)
        self.assertGreater(changed, 200)

    def test_kinds(self):
        for reader in drawn_readers(20, 8, 104):
            told = least(reader)
            self.assertEqual([type(told), type(told[0]), type(told[1])], [tuple] * 3)
            self.assertEqual({type(row) for row in told[0]}, {tuple})
            self.assertEqual({type(room) for row in told[0] for room in row}, {int})


class LeastOfAMachine(unittest.TestCase):
    def test_by_hand(self):
        # Of its eight rooms 0 and 1, 2 and 3, and the three that say ever for ever say the same.
        self.assertEqual(least_of(EXAMPLE), (((0, 1), (2, 3), (2, 1), (3, 3)), ("by", "out", "out", "ever")))

    def test_that_of_its_one_way_machine(self):
        for machine in drawn_machines(60, 4, seed=105):
            try:
                told = one_way(machine)
            except TooMany:
                continue
            self.assertEqual(least_of(machine), least(told))

    def test_equal_for_machines_that_say_the_same(self):
        # Let by where there is an even number of a: read to the right, and read to the left.
        straight = read_machine("0,1>,0>,by 0,0>,1>,out")
        backward = read_machine("0,0>,0>,1 by,2<,1<,by out,1<,2<,by")
        even = (((1, 0), (0, 1)), ("by", "out"))
        self.assertNotEqual(one_way(straight), one_way(backward))
        self.assertEqual([least_of(straight), least_of(backward)], [even, even])

    def test_refused(self):
        self.assertRaises(TooMany, least_of, MANY_BEGINNINGS)
        self.assertRaises(TooMany, one_way, MANY_BEGINNINGS)


class Lead(unittest.TestCase):
    def test_by_hand(self):
        reader = (((0, 2), (4, 0), (2, 1), (3, 3), (0, 0)), ("by",) * 5)
        self.assertEqual([lead(reader, room) for room in range(5)], ["", "bb", "b", None, "bba"])
        self.assertEqual(lead((((0, 0, 0),), ("ever",)), 0), "")
        self.assertEqual(lead((((0,), (0,)), ("by", "out")), 1), None)

    def test_of_several_the_first(self):
        # Room 3 is reached by ac, by ba and by the longer aaa.
        reader = (((1, 2, 0), (2, 1, 3), (3, 0, 0), (3, 3, 3)), ("by", "by", "by", "out"))
        self.assertEqual([lead(reader, room) for room in range(4)], ["", "a", "b", "ac"])
        self.assertEqual(lead((((0, 1, 1), (0, 0, 0)), ("by", "out")), 1), "b")

    def test_room_0_is_led_to_without_signs(self):
        for reader in drawn_readers(20, 6, 106):
            self.assertEqual(lead(reader, 0), "")

    def test_far_off(self):
        far = (tuple((min(room + 1, 199),) for room in range(200)), ("out",) * 200)
        self.assertEqual([len(lead(far, room)) for room in range(200)], list(range(200)))

    def test_as_plainly_said(self):
        seen = set()
        for reader in drawn_readers(120, 7, 107):
            found = plain_led_to(reader)
            for room in range(len(reader[0])):
                told = lead(reader, room)
                self.assertEqual(told, found.get(room))
                self.assertIn(type(told), (str, type(None)))
                seen.add(told)
        self.assertIn(None, seen)
        self.assertGreater(len(seen), 20)

    def test_in_a_least_form_there_always_is_one(self):
        for reader in drawn_readers(60, 12, 108):
            told = least(reader)
            strips_there = [lead(told, room) for room in range(len(told[0]))]
            self.assertEqual([room_by(told, strip) for strip in strips_there], list(range(len(told[0]))))
            self.assertEqual(strips_there, sorted(strips_there, key=lambda strip: (len(strip), strip)))


class Parting(unittest.TestCase):
    def test_by_hand(self):
        reader = (((1, 2), (3, 0), (3, 2), (3, 3), (4, 3)), ("by", "by", "by", "out", "by"))
        self.assertEqual(parting(reader, 0, 3), "")
        self.assertEqual(parting(reader, 0, 1), "a")
        self.assertEqual(parting(reader, 4, 2), "a")
        # By a both come to room 3, by b to rooms 0 and 2, which a parts.
        self.assertEqual(parting(reader, 1, 2), "ba")
        self.assertEqual(parting(reader, 0, 4), "b")

    def test_nothing_parts(self):
        reader = (((1, 2), (2, 1), (1, 1), (0, 0)), ("by", "out", "out", "ever"))
        self.assertEqual([parting(reader, 1, 2), parting(reader, 2, 1)], [None, None])
        self.assertEqual([parting(reader, room, room) for room in range(4)], [None] * 4)

    def test_rooms_that_nothing_leads_to(self):
        reader = (((0,), (2,), (1,)), ("by", "by", "out"))
        self.assertEqual([parting(reader, 1, 0), parting(reader, 1, 2), parting(reader, 0, 2)], ["a", "", ""])

    def test_far_off(self):
        far = (tuple((min(room + 1, 199),) for room in range(200)), ("out",) * 199 + ("by",))
        self.assertEqual(parting(far, 0, 1), "a" * 198)
        self.assertEqual(parting(far, 197, 3), "aa")
        # Both go round in rings of which nothing is unlike, until both stand again as they stood.
        rings = (tuple((room + 1,) for room in range(98)) + ((0,),) + tuple((room + 1,) for room in range(99, 199))
                 + ((99,),), ("by",) * 200)
        self.assertIsNone(parting(rings, 0, 99))

    def test_as_plainly_said_either_way_round(self):
        seen = set()
        for reader in drawn_readers(90, 6, 109, ("by", "by", "by", "out", "ever")):
            parted = plain_pairs_parted(reader)
            for one in range(len(reader[0])):
                for other in range(len(reader[0])):
                    told = parting(reader, one, other)
                    self.assertEqual(told, plain_parting(reader, one, other))
                    self.assertEqual(told is not None, parted[one, other])
                    self.assertEqual(told, parting(reader, other, one))
                    self.assertIn(type(told), (str, type(None)))
                    seen.add(told)
        self.assertLess({None, "", "a", "b", "c", "aa", "ba"}, seen)

    def test_in_a_least_form_there_always_is_one(self):
        for reader in drawn_readers(40, 9, 110):
            told = least(reader)
            for one in range(len(told[0])):
                for other in range(len(told[0])):
                    self.assertEqual(parting(told, one, other) is None, one == other)


if __name__ == "__main__":
    unittest.main()
