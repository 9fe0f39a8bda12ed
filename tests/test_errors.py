import unittest

from striproam import errors
from striproam.errors import (
    NoBorder,
    NoLine,
    NoMachine,
    NoName,
    NoStrip,
    NoText,
    NothingDone,
    NotLike,
    NoWord,
    TooMany,
    WayError,
)

ONE_VALUE = {NoText: "at", NoStrip: "at", NoName: "name", NoLine: "line"}
WITH_TEXT = (TooMany, NotLike, NoWord, NoBorder, NothingDone)
ALL = (NoMachine, *ONE_VALUE, *WITH_TEXT)
# Python won't write out a number of more than 4300 figures.
ANYTHING = (0, -1, 10 ** 5000, "", "by", "two words", None, True, (), [1], {"a": 1}, object())


class Standing(unittest.TestCase):
    def test_way_error_is_a_value_error(self):
        self.assertEqual(WayError.__bases__, (ValueError,))

    def test_each_stands_straight_under_way_error(self):
        for kind in ALL:
            with self.subTest(kind=kind):
                self.assertEqual(kind.__bases__, (WayError,))

    def test_none_stands_under_another(self):
        for kind in ALL:
            for other in ALL:
                if kind is not other:
                    self.assertFalse(issubclass(kind, other), (kind, other))

    def test_there_are_just_these(self):
        found = {
            value for value in vars(errors).values()
            if isinstance(value, type)
        }
        self.assertEqual(found, {WayError, *ALL})


class Values(unittest.TestCase):
    def test_no_machine_has_part_and_room_whatever_they_are(self):
        for part in ANYTHING:
            for room in ANYTHING:
                error = NoMachine(part, room)
                self.assertIs(error.part, part)
                self.assertIs(error.room, room)

    def test_the_others_have_their_value_whatever_it_is(self):
        for kind, name in ONE_VALUE.items():
            for value in ANYTHING:
                self.assertIs(getattr(kind(value), name), value)

    def test_values_belong_to_one_error_alone(self):
        one, other = NoText(1), NoText(2)
        self.assertEqual((one.at, other.at), (1, 2))

    def test_those_with_a_text_are_made_and_raised(self):
        for kind in WITH_TEXT:
            for text in ("", "more than 300 tables"):
                with self.assertRaises(WayError) as caught:
                    raise kind(text)
                self.assertIs(type(caught.exception), kind)


if __name__ == "__main__":
    unittest.main()
