"""The classes of refusals: where they stand and which fields they have."""

import unittest

from swaprest import errors

WITHOUT = (
    "NoNumber", "NoCount", "TooLong", "NoTree", "NoWord", "NoLeast", "NotNought", "NotOne", "TooDeep",
    "NoLine", "NoMatch", "NoDeed",
)

FIELDS = {
    "NoRow": "place", "NoSquare": "place", "NoPair": "place", "NotFree": "place", "NoSum": "place",
    "NotBare": "pair", "NoShelf": "pair", "NotActing": "pair", "NotKept": "pair",
    "Broken": "at", "NotGap": "at", "NoText": "at",
    "NoPlace": "step", "NotEaten": "way", "NoName": "name",
}

VALUES = {
    "place": (0, 3, None), "pair": ((0, 1), (2, 5)), "at": ((0, 1, 2), 0, 7), "step": (0, 4), "way": (0, 5),
    "name": ("abc", "", "A"),
}

ALL_FIELDS = set(FIELDS.values())


class Errors(unittest.TestCase):
    def test_any_refusal_is_a_value_error(self):
        self.assertEqual(errors.SwapError.__bases__, (ValueError,))

    def test_each_stands_straight_under_it(self):
        for name in (*WITHOUT, *FIELDS):
            with self.subTest(name):
                self.assertEqual(getattr(errors, name).__bases__, (errors.SwapError,))

    def test_none_stands_under_another(self):
        names = (*WITHOUT, *FIELDS)
        for name in names:
            for other in names:
                if name != other:
                    self.assertFalse(issubclass(getattr(errors, name), getattr(errors, other)), (name, other))

    def test_there_are_no_others(self):
        found = {name for name, one in vars(errors).items() if isinstance(one, type)}
        self.assertEqual(found, {"SwapError", *WITHOUT, *FIELDS})

    def test_those_without_fields(self):
        for name in WITHOUT:
            with self.subTest(name):
                made = getattr(errors, name)("why")
                self.assertEqual(vars(made), {})
                for field in ALL_FIELDS:
                    self.assertFalse(hasattr(made, field))

    def test_the_field_is_set_when_the_object_is_made(self):
        for name, field in FIELDS.items():
            for value in VALUES[field]:
                with self.subTest(name, value=value):
                    made = getattr(errors, name)(value)
                    self.assertEqual(vars(made), {field: value})
                    self.assertIs(getattr(made, field), value)

    def test_each_object_has_its_own_value(self):
        for name, field in FIELDS.items():
            first, second = VALUES[field][:2]
            one, other = getattr(errors, name)(first), getattr(errors, name)(second)
            self.assertEqual((getattr(one, field), getattr(other, field)), (first, second))

    def test_all_can_be_raised_and_taken(self):
        for name in (*WITHOUT, *FIELDS):
            for taken in (getattr(errors, name), errors.SwapError, ValueError):
                with self.assertRaises(taken):
                    raise getattr(errors, name)("why")


if __name__ == "__main__":
    unittest.main()
