"""Point 6: the refusals, their classes and their fields."""

import unittest

from unsaybook import errors

FIELDS = {
    "NoKeys": None, "NoKey": "key", "NoDay": "day", "NoValue": "thing", "NoFinding": "number",
    "Gone": "number", "NoTurn": "turn", "Full": None, "BadQuestion": "place", "NoName": "name",
    "NoBox": None, "NoGiven": "number", "NoLine": None,
}

THINGS = (
    0, 1, -1, 399, 10 ** 99, -(10 ** 99), "", "a", "0", " two\nlines\t", True, False, None,
    [], [1, [2]], (), (1, "a"), (None,), {}, {"a": [1]}, {1: (2, 3)},
)


def refusal(name):
    return getattr(errors, name)


def made(name, thing):
    return refusal(name)() if FIELDS[name] is None else refusal(name)(thing)


class Classes(unittest.TestCase):
    def test_unsay_error_is_a_value_error(self):
        self.assertEqual(errors.UnsayError.__bases__, (ValueError,))

    def test_there_are_these_thirteen(self):
        there = [name for name, thing in vars(errors).items() if isinstance(thing, type)]
        self.assertEqual(sorted(there), sorted([*FIELDS, "UnsayError"]))

    def test_each_stands_straight_under_unsay_error(self):
        for name in FIELDS:
            self.assertEqual(refusal(name).__bases__, (errors.UnsayError,), name)

    def test_each_is_a_refusal_and_none_of_the_others(self):
        for name in FIELDS:
            error = made(name, 7)
            self.assertIsInstance(error, errors.UnsayError)
            self.assertIsInstance(error, ValueError)
            for other in FIELDS:
                self.assertEqual(isinstance(error, refusal(other)), name == other, (name, other))

    def test_each_is_taken_by_its_own_name(self):
        for name in FIELDS:
            with self.assertRaises(refusal(name)):
                raise made(name, "x")


class Fields(unittest.TestCase):
    def test_a_field_is_the_thing_itself(self):
        for name, field in FIELDS.items():
            if field is None:
                continue
            for thing in THINGS:
                self.assertIs(getattr(made(name, thing), field), thing, (name, thing))

    def test_a_field_is_there_when_it_was_raised(self):
        for name, field in FIELDS.items():
            if field is None:
                continue
            thing = [name]
            with self.assertRaises(errors.UnsayError) as caught:
                raise made(name, thing)
            self.assertIs(getattr(caught.exception, field), thing)

    def test_two_refusals_have_their_own_fields(self):
        for name, field in FIELDS.items():
            if field is None:
                continue
            one, other = made(name, 1), made(name, 2)
            self.assertEqual((getattr(one, field), getattr(other, field)), (1, 2))

    def test_what_was_handed_in_stays_as_it_was(self):
        thing = [1, {"a": [2]}]
        for name in FIELDS:
            made(name, thing)
        self.assertEqual(thing, [1, {"a": [2]}])

    def test_each_can_be_shown(self):
        for name in FIELDS:
            for thing in THINGS:
                self.assertIsInstance(str(made(name, thing)), str)
                self.assertIsInstance(repr(made(name, thing)), str)


if __name__ == "__main__":
    unittest.main()
