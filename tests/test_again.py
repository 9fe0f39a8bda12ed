import random
import unittest

from plainly import drawn_machine, drawn_strip, plain_word

from striproam.again import comes_round
from striproam.errors import NoStrip, TooMany
from striproam.machines import machine_of
from striproam.texts import read_machine

# Lets by where the number of a is a multiple of 3.
THIRDS = read_machine("0,1>,0>,by 0,2>,1>,out 0,0>,2>,out")
TOO_MANY = read_machine(
    "9,2>,6<,out 8,6>,4<,8 out,8<,4>,8 7,9>,3>,3 2,1<,2<,6 2,0<,9<,7 3,3>,2<,5 8,4<,0<,5 by,2<,8>,6 9,1>,9>,4"
)


def saying(words, come):
    """Says these words of strips of 0, 1, .. signs a, then those from number come on, again and again."""
    rounds = len(words)
    rows = [
        [room, [[room + 1 if room + 1 < rounds else come, 1]], rounds if word == "ever" else word]
        for room, word in enumerate(words)
    ]
    return machine_of(rows + [[rounds, [[rounds, 1]], rounds]])


def plain_round(words, most):
    """The least length, and for it the least start, that these many words show, both up to most."""
    for length in range(1, most + 1):
        for start in range(most + 1):
            if words[start:len(words) - length] == words[start + length:]:
                return (start, length, words[:start + length])
    return None


class ComesRound(unittest.TestCase):
    def test_by_hand(self):
        self.assertEqual(comes_round(THIRDS, "", "a", ""), (0, 3, ["by", "out", "out"]))
        self.assertEqual(comes_round(THIRDS, "a", "a", ""), (0, 3, ["out", "out", "by"]))
        self.assertEqual(comes_round(THIRDS, "", "a", "aa"), (0, 3, ["out", "by", "out"]))
        self.assertEqual(comes_round(THIRDS, "", "aaa", ""), (0, 1, ["by"]))
        self.assertEqual(comes_round(THIRDS, "ab", "b", "b"), (0, 1, ["out"]))
        self.assertEqual(comes_round(THIRDS, "b", "ababa", "ba"), (0, 1, ["out"]))
        self.assertEqual(comes_round(THIRDS, "b", "aba", "ba"), (0, 3, ["out", "by", "out"]))

    def test_behind_left_out(self):
        for ahead, again in (("", "a"), ("ab", "ba"), ("b", ""), ("", "")):
            self.assertEqual(comes_round(THIRDS, ahead, again), comes_round(THIRDS, ahead, again, ""))

    def test_a_start_greater_than_0(self):
        # The rooms come round from 3 on, what is said from 2 on: by, out, by and again.
        machine = saying(["out", "ever", "by", "out", "by", "by"], 3)
        self.assertEqual(comes_round(machine, "", "a", ""), (2, 3, ["out", "ever", "by", "out", "by"]))
        self.assertEqual(comes_round(machine, "a", "a", ""), (1, 3, ["ever", "by", "out", "by"]))
        self.assertEqual(comes_round(machine, "", "a", "a"), (1, 3, ["ever", "by", "out", "by"]))
        self.assertEqual(comes_round(machine, "aa", "a", ""), (0, 3, ["by", "out", "by"]))
        self.assertEqual(comes_round(machine, "", "aa", ""), (0, 3, ["out", "by", "by"]))
        self.assertEqual(comes_round(machine, "", "aaa", ""), (0, 1, ["out"]))
        self.assertEqual(comes_round(machine, "a", "aaa", ""), (1, 1, ["ever", "by"]))

    def test_words_come_round_sooner_and_shorter_than_rooms(self):
        machine = saying(["by", "out"] * 6, 4)
        self.assertEqual(comes_round(machine, "", "a", ""), (0, 2, ["by", "out"]))
        machine = saying(["ever"] * 5 + ["out"] * 5, 7)
        self.assertEqual(comes_round(machine, "", "a", ""), (5, 1, ["ever"] * 5 + ["out"]))
        # The last word ahead of the start would fit another length, not the least one.
        machine = saying(["out", "by", "by", "by", "out", "by", "out"], 3)
        self.assertEqual(comes_round(machine, "", "a", ""), (3, 2, ["out", "by", "by", "by", "out"]))

    def test_again_without_signs(self):
        for ahead, behind, word in (("", "", "by"), ("a", "", "out"), ("ab", "aa", "by"), ("a", "a", "out")):
            self.assertEqual(comes_round(THIRDS, ahead, "", behind), (0, 1, [word]))
        self.assertEqual(comes_round(saying(["ever"], 0), "aa", "", "a"), (0, 1, ["ever"]))

    def test_the_longest(self):
        ring = machine_of([[0, [[(room + 1) % 60, 1]], "out" if room else "by"] for room in range(60)])
        self.assertEqual(comes_round(ring, "", "a", ""), (0, 60, ["by"] + ["out"] * 59))
        # 399 times 20 is a multiple of 60; 400 and 398 and 399 times so many is, too, for one of these.
        self.assertEqual(comes_round(ring, "a" * 400, "a" * 399, "a" * 398), (0, 20, [
            "by" if (798 + 399 * times) % 60 == 0 else "out" for times in range(20)
        ]))
        self.assertEqual(comes_round(ring, "a" * 400, "a" * 399, "a" * 400), (0, 1, ["out"]))
        far = saying(["out"] * 58 + ["by"], 58)
        self.assertEqual(comes_round(far, "", "a", ""), (58, 1, ["out"] * 58 + ["by"]))

    def test_as_plainly_said(self):
        source = random.Random(160)
        starts, lengths, tried = set(), set(), 0
        while tried < 400:
            machine = drawn_machine(source, source.randint(1, 6), source.randint(1, 3), 30)
            ahead, again, behind = [drawn_strip(source, machine, source.randint(0, 4)) for part in range(3)]
            try:
                told = comes_round(machine, ahead, again, behind)
            except TooMany:
                continue
            tried += 1
            words = [plain_word(machine, ahead + again * times + behind) for times in range(40)]
            self.assertEqual(told, plain_round(words, 10))
            starts.add(told[0])
            lengths.add(told[1])
        self.assertLessEqual({0, 1}, starts)
        self.assertLessEqual({1, 2}, lengths)

    def test_spoken_as_plainly_said(self):
        source = random.Random(161)
        for number in range(300):
            words = [source.choice(("by", "by", "out", "ever")) for room in range(source.randint(1, 9))]
            come = source.randrange(len(words))
            machine = saying(words, come)
            ahead, again, behind = ["a" * source.choice((0, 0, 1, 2, 3)) for part in range(3)]
            row = list(words)
            while len(row) < 400:
                row.append(row[come + (len(row) - come) % (len(words) - come)])
            said = row[len(ahead + behind):][::len(again)][:60] if again else [row[len(ahead + behind)]] * 60
            told = comes_round(machine, ahead, again, behind)
            self.assertEqual(told, plain_round(said, 20))
            self.assertEqual(len(told[2]), told[0] + told[1])

    def test_kinds(self):
        for told in (comes_round(THIRDS, "", "a"), comes_round(THIRDS, "", "")):
            self.assertEqual([type(part) for part in (told, *told)], [tuple, int, int, list])
            self.assertEqual({type(word) for word in told[2]}, {str})

    def test_another_sign(self):
        for ahead, again, behind, at in (
            ("c", "", "", 0), ("", "ac", "", 1), ("", "", "aac", 2), ("abc", "c", "ac", 2), ("a", "bbbc", "ac", 3),
            ("", "c", "", 0), ("ab-", "-", "-", 2), ("a" * 399 + "c", "", "c", 399), ("a", "", "b ", 1),
        ):
            for machine in (THIRDS, TOO_MANY):
                with self.assertRaises(NoStrip) as caught:
                    comes_round(machine, ahead, again, behind)
                self.assertEqual(caught.exception.at, at)

    def test_too_many(self):
        self.assertRaises(TooMany, comes_round, TOO_MANY, "a", "b", "")
        self.assertRaises(TooMany, comes_round, TOO_MANY, "", "")

    def test_the_told_list_is_the_askers_own(self):
        told = comes_round(THIRDS, "", "a")
        other = comes_round(THIRDS, "", "a")
        told[2].clear()
        self.assertEqual(other, (0, 3, ["by", "out", "out"]))
        other[2].append("by")
        self.assertEqual(comes_round(THIRDS, "", "a"), (0, 3, ["by", "out", "out"]))


if __name__ == "__main__":
    unittest.main()
