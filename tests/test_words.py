"""Points 2 and 11: whole numbers, names, and numbers written plainly."""

import unittest

from unsaybook.words import is_day, is_name, is_whole, number_of

FAR = 10 ** 99
NO_NUMBERS = (True, False, None, "", "1", "0", "a", [], [1], (), (1,), {}, {1: 1})
NO_TEXTS = (0, 1, -5, FAR, True, False, None, [], ["a"], ["a", "b"], (), ("a",), {}, {"a": "b"})


class Wholes(unittest.TestCase):
    def test_bounds_are_counted(self):
        for number, told in ((-1, False), (0, True), (1, True), (398, True), (399, True), (400, False)):
            self.assertIs(is_whole(number, 0, 399), told, number)

    def test_bounds_below_nought(self):
        for number, told in ((-6, False), (-5, True), (-4, True), (-3, True), (-2, False), (4, False)):
            self.assertIs(is_whole(number, -5, -3), told, number)

    def test_one_number_alone(self):
        self.assertEqual([n for n in range(-3, 4) if is_whole(n, 1, 1)], [1])

    def test_the_first_bound_above_the_other(self):
        for number in range(-5, 6):
            self.assertIs(is_whole(number, 3, -3), False)
            self.assertIs(is_whole(number, 1, 0), False)

    def test_numbers_of_a_hundred_figures(self):
        self.assertIs(is_whole(FAR, -(10 ** 9), 10 ** 9), False)
        self.assertIs(is_whole(-FAR, -(10 ** 9), 10 ** 9), False)
        self.assertIs(is_whole(FAR, -FAR, FAR), True)

    def test_truths_and_other_things_are_none(self):
        for thing in NO_NUMBERS:
            self.assertIs(is_whole(thing, -10, 10), False, thing)
            self.assertIs(is_whole(thing, 10, -10), False, thing)


class Days(unittest.TestCase):
    def test_from_nought_to_399(self):
        self.assertEqual([day for day in range(-5, 410) if is_day(day)], list(range(400)))

    def test_truths_and_other_things_are_none(self):
        for thing in (*NO_NUMBERS, FAR, -FAR):
            self.assertIs(is_day(thing), False, thing)


class Names(unittest.TestCase):
    def test_one_to_eight_letters(self):
        for length in range(12):
            self.assertIs(is_name("a" * length), 1 <= length <= 8, length)

    def test_each_small_letter_and_no_other_sign(self):
        for code in [9, 10, 13, *range(32, 127)]:
            small = ord("a") <= code <= ord("z")
            for text in (chr(code), "ab" + chr(code), chr(code) + "ab", "a" + chr(code) + "b"):
                self.assertIs(is_name(text), small, text)

    def test_ordinary_ones(self):
        for text in ("rain", "sum", "keys", "abcdefgh", "zzzzzzzz", "none"):
            self.assertIs(is_name(text), True, text)

    def test_great_letters_figures_and_blanks(self):
        for text in ("Rain", "raiN", "RAIN", "rain1", "1rain", "12", "ra in", " rain", "rain ", " ", "rain\n", "a,b"):
            self.assertIs(is_name(text), False, text)

    def test_what_is_no_text(self):
        for thing in NO_TEXTS:
            self.assertIs(is_name(thing), False, thing)


class Numbers(unittest.TestCase):
    def check_none(self, *texts):
        for text in texts:
            self.assertIsNone(number_of(text, -(10 ** 15), 10 ** 15), text)

    def check_plain(self, number):
        told = number_of(str(number), -(10 ** 15), 10 ** 15)
        self.assertEqual(told, number)
        self.assertIs(type(told), int)

    def test_plain_ones(self):
        for number in (*range(-1100, 1101), 10 ** 9, -(10 ** 9), 987654321098, -987654321098):
            self.check_plain(number)

    def test_nought_is_written_one_way(self):
        self.assertEqual(number_of("0", 0, 0), 0)
        self.check_none("-0", "+0", "00", "-00", "000000000000")

    def test_a_nought_ahead(self):
        self.check_none("07", "-07", "007", "01", "-01", "0000")

    def test_signs_ahead(self):
        self.check_none("+1", "--1", "-+1", "+-1", "- 1", "+", "-", "--", "1-", "1-2", "~1")

    def test_no_signs(self):
        self.check_none("")

    def test_other_signs(self):
        self.check_none(" ", " 1", "1 ", "1 2", "1\n", "\n1", "\t1", "1_0", "1,0", "1.0", "1e3", "0x1", "a", "one", "-a")

    def test_twelve_and_thirteen_figures(self):
        self.check_plain(999999999999)
        self.check_plain(-999999999999)
        self.check_plain(100000000000)
        self.check_none("1000000000000", "-1000000000000", "9999999999999", "1" * 13, "-" + "1" * 13, "1" * 400)

    def test_at_the_bounds_and_just_beyond(self):
        for low, high in ((0, 399), (-(10 ** 9), 10 ** 9), (1, 400), (-7, -3), (5, 5)):
            self.assertEqual(number_of(str(low), low, high), low)
            self.assertEqual(number_of(str(high), low, high), high)
            self.assertIsNone(number_of(str(low - 1), low, high))
            self.assertIsNone(number_of(str(high + 1), low, high))

    def test_nought_outside_the_bounds(self):
        self.assertIsNone(number_of("0", 1, 400))
        self.assertIsNone(number_of("0", -7, -3))

    def test_the_first_bound_above_the_other(self):
        for number in range(-5, 6):
            self.assertIsNone(number_of(str(number), 3, -3))


if __name__ == "__main__":
    unittest.main()
