"""Points 5, 12, 13, 14 and 15: strips, held against a day by day reckoning."""

import itertools
import unittest

from unsaybook.strips import cut, filled, joined, laid, mark_on, side_by_side

# What stands in the place of a mark where a strip does not have the day.
LACKS = "lacks"
SIGHTS = (LACKS, None, 0, 1)
SHIFTS = (0, 7, 395)


def told_by(rows):
    """Of each day that the rows have, what they tell: a dict."""
    told = {}
    for row in rows:
        for day in range(row[0], row[1] + 1):
            if day in told:
                raise AssertionError(f"day {day} stands twice in {rows}")
            told[day] = row[2:]
    return told


def fewest(told):
    """The fewest rows that tell this, found without the program."""
    rows = []
    for day in sorted(told):
        if rows and rows[-1][1] == day - 1 and rows[-1][2:] == told[day]:
            rows[-1] = (rows[-1][0], day, *told[day])
        else:
            rows.append((day, day, *told[day]))
    return rows


def told_over(length, shift):
    """Every way to tell of so many days, each day lacking or with a mark."""
    for sights in itertools.product(SIGHTS, repeat=length):
        yield {shift + place: (sight,) for place, sight in enumerate(sights) if sight != LACKS}


def ways(told):
    """A tidy strip, one of single days, and one between, all telling the same."""
    singles = [(day, day, *told[day]) for day in sorted(told)]
    tidy = fewest(told)
    halved = []
    for first, last, mark in tidy:
        if last - first >= 2:
            halved += [(first, first + 1, mark), (first + 2, last, mark)]
        else:
            halved.append((first, last, mark))
    return [tidy] + [strip for strip in (singles, halved) if strip != tidy]


def stretches(first, last):
    days = range(max(first, 0), min(last, 399) + 1)
    return itertools.combinations_with_replacement(days, 2)


def cases(length):
    for shift in SHIFTS:
        for told in told_over(length, shift):
            for strip in ways(told):
                yield told, strip, list(stretches(shift - 1, shift + length))


class Held(unittest.TestCase):
    def check(self, got, told):
        self.assertIs(type(got), list)
        self.assertTrue(all([type(row) is tuple for row in got]), got)
        self.assertEqual(got, fewest(told))


class Joining(Held):
    def test_rows_in_any_order(self):
        rows = [(0, 1, 4), (2, 2, 4), (3, 5, None), (7, 9, None), (10, 10, None)]
        for shuffled in itertools.permutations(rows):
            self.assertEqual(joined(list(shuffled)), [(0, 2, 4), (3, 5, None), (7, 10, None)])

    def test_no_row_and_one_row(self):
        self.assertEqual(joined([]), [])
        for row in ((0, 0, 0), (399, 399, None), (0, 399, 7), (3, 8, None)):
            self.assertEqual(joined([row]), [row])

    def test_neighbours_with_unlike_marks_stay(self):
        self.assertEqual(joined([(5, 9, 2), (0, 4, 1)]), [(0, 4, 1), (5, 9, 2)])
        self.assertEqual(joined([(5, 9, None), (0, 4, 0)]), [(0, 4, 0), (5, 9, None)])
        self.assertEqual(joined([(5, 9, 0), (0, 4, None)]), [(0, 4, None), (5, 9, 0)])

    def test_equal_marks_across_a_gap_stay(self):
        self.assertEqual(joined([(6, 9, 1), (0, 4, 1)]), [(0, 4, 1), (6, 9, 1)])
        self.assertEqual(joined([(6, 9, None), (0, 4, None)]), [(0, 4, None), (6, 9, None)])

    def test_many_equal_neighbours_are_one_row(self):
        self.assertEqual(joined([(day, day, 3) for day in reversed(range(400))]), [(0, 399, 3)])
        self.assertEqual(joined([(day, day, None) for day in range(400)]), [(0, 399, None)])

    def test_four_hundred_unlike_rows(self):
        rows = [(day, day, day % 2) for day in range(400)]
        self.assertEqual(joined(rows[::-1]), rows)

    def test_marks_are_compared_not_counted_up(self):
        self.assertEqual(joined([(0, 0, 10 ** 12), (1, 1, 10 ** 12)]), [(0, 1, 10 ** 12)])
        self.assertEqual(joined([(0, 0, 10 ** 12), (1, 1, 10 ** 12 + 1)]), [(0, 0, 10 ** 12), (1, 1, 10 ** 12 + 1)])

    def test_all_small_strips(self):
        for told, strip, _ in cases(5):
            self.check(joined(strip), told)
            self.check(joined(strip[::-1]), told)
            self.check(joined(strip[1::2] + strip[::2]), told)


class Marks(Held):
    def test_ahead_in_between_and_behind(self):
        strip = [(3, 5, 8), (6, 6, 9), (10, 12, None), (14, 14, 0)]
        marks = {3: 8, 4: 8, 5: 8, 6: 9, 14: 0}
        for day in (*range(20), 398, 399):
            self.assertEqual(mark_on(strip, day), marks.get(day), day)

    def test_no_row(self):
        self.assertIsNone(mark_on([], 0))
        self.assertIsNone(mark_on([], 399))

    def test_the_outermost_days(self):
        self.assertEqual(mark_on([(0, 399, 0)], 0), 0)
        self.assertEqual(mark_on([(0, 399, 0)], 399), 0)
        self.assertEqual(mark_on([(0, 0, 1), (399, 399, 2)], 399), 2)

    def test_all_small_strips(self):
        for told, strip, _ in cases(4):
            for day in sorted({0, 399, *range(7)} | set(told)):
                self.assertEqual(mark_on(strip, day), told.get(day, (None,))[0])


class Cutting(Held):
    def test_in_at_ahead_and_behind(self):
        strip = [(3, 5, 8), (6, 6, 9), (10, 12, None)]
        self.assertEqual(cut(strip, 4, 11), [(4, 5, 8), (6, 6, 9), (10, 11, None)])
        self.assertEqual(cut(strip, 3, 12), strip)
        self.assertEqual(cut(strip, 0, 399), strip)
        self.assertEqual(cut(strip, 0, 2), [])
        self.assertEqual(cut(strip, 0, 3), [(3, 3, 8)])
        self.assertEqual(cut(strip, 7, 9), [])
        self.assertEqual(cut(strip, 12, 399), [(12, 12, None)])
        self.assertEqual(cut(strip, 13, 399), [])

    def test_one_day(self):
        strip = [(3, 5, 8), (6, 9, None)]
        self.assertEqual(cut(strip, 4, 4), [(4, 4, 8)])
        self.assertEqual(cut(strip, 7, 7), [(7, 7, None)])
        self.assertEqual(cut(strip, 2, 2), [])

    def test_no_row(self):
        self.assertEqual(cut([], 0, 399), [])

    def test_what_is_told_is_tidy(self):
        self.assertEqual(cut([(0, 1, 2), (2, 3, 2), (4, 9, None), (10, 11, None)], 1, 10), [(1, 3, 2), (4, 10, None)])

    def test_all_small_strips(self):
        for told, strip, days in cases(4):
            for first, last in days:
                self.check(cut(strip, first, last), {day: told[day] for day in told if first <= day <= last})


class Filling(Held):
    def test_gaps_ahead_between_and_behind(self):
        strip = [(3, 5, 8), (9, 9, 8)]
        self.assertEqual(
            filled(strip, 0, 12),
            [(0, 2, None), (3, 5, 8), (6, 8, None), (9, 9, 8), (10, 12, None)],
        )
        self.assertEqual(filled(strip, 4, 9), [(4, 5, 8), (6, 8, None), (9, 9, 8)])
        self.assertEqual(filled(strip, 6, 8), [(6, 8, None)])

    def test_gaps_beside_rows_with_none(self):
        self.assertEqual(filled([(3, 5, None)], 0, 9), [(0, 9, None)])
        self.assertEqual(filled([(3, 5, None), (8, 9, 1)], 0, 9), [(0, 7, None), (8, 9, 1)])

    def test_all_four_hundred_days(self):
        self.assertEqual(filled([], 0, 399), [(0, 399, None)])
        self.assertEqual(filled([(0, 399, 0)], 0, 399), [(0, 399, 0)])
        self.assertEqual(filled([(399, 399, 1)], 0, 399), [(0, 398, None), (399, 399, 1)])

    def test_one_day(self):
        self.assertEqual(filled([(3, 5, 8)], 5, 5), [(5, 5, 8)])
        self.assertEqual(filled([(3, 5, 8)], 6, 6), [(6, 6, None)])

    def test_all_small_strips(self):
        for told, strip, days in cases(4):
            for first, last in days:
                self.check(
                    filled(strip, first, last),
                    {day: told.get(day, (None,)) for day in range(first, last + 1)},
                )


class Laying(Held):
    def test_over_days_that_the_strip_lacks(self):
        self.assertEqual(laid([], 3, 8, 1), [(3, 8, 1)])
        self.assertEqual(laid([(0, 1, 2), (20, 21, 3)], 5, 6, 9), [(0, 1, 2), (5, 6, 9), (20, 21, 3)])
        self.assertEqual(laid([(0, 5, 2)], 4, 8, 9), [(0, 3, 2), (4, 8, 9)])

    def test_within_a_row(self):
        self.assertEqual(laid([(0, 9, 1)], 4, 5, 2), [(0, 3, 1), (4, 5, 2), (6, 9, 1)])
        self.assertEqual(laid([(0, 9, None)], 4, 4, 0), [(0, 3, None), (4, 4, 0), (5, 9, None)])
        self.assertEqual(laid([(0, 9, 1)], 4, 5, 1), [(0, 9, 1)])

    def test_over_several_rows(self):
        strip = [(0, 2, 1), (3, 5, 2), (8, 9, None), (11, 14, 3)]
        self.assertEqual(laid(strip, 2, 12, 7), [(0, 1, 1), (2, 12, 7), (13, 14, 3)])
        self.assertEqual(laid(strip, 0, 14, 7), [(0, 14, 7)])

    def test_beside_an_equal_mark(self):
        self.assertEqual(laid([(0, 2, 7), (6, 9, 7)], 3, 5, 7), [(0, 9, 7)])
        self.assertEqual(laid([(0, 2, 7), (6, 9, 7)], 4, 4, 7), [(0, 2, 7), (4, 4, 7), (6, 9, 7)])

    def test_rows_elsewhere_become_tidy(self):
        self.assertEqual(laid([(0, 0, 1), (1, 1, 1), (5, 5, 2), (6, 6, 2)], 3, 3, 0), [(0, 1, 1), (3, 3, 0), (5, 6, 2)])

    def test_all_four_hundred_days(self):
        self.assertEqual(laid([(0, 3, 1), (4, 399, None)], 0, 399, 5), [(0, 399, 5)])
        self.assertEqual(laid([(0, 399, 1)], 0, 0, 5), [(0, 0, 5), (1, 399, 1)])
        self.assertEqual(laid([(0, 399, 1)], 399, 399, 5), [(0, 398, 1), (399, 399, 5)])

    def test_all_small_strips(self):
        for told, strip, days in cases(4):
            for first, last in days:
                for mark in (0, 2):
                    over = {day: (mark,) for day in range(first, last + 1)}
                    self.check(laid(strip, first, last, mark), {**told, **over})


class Beside(Held):
    def test_two_strips(self):
        one = [(0, 4, 1), (8, 9, 2)]
        other = [(3, 8, 5)]
        self.assertEqual(
            side_by_side(one, other, 0, 11),
            [(0, 2, 1, None), (3, 4, 1, 5), (5, 7, None, 5), (8, 8, 2, 5), (9, 9, 2, None), (10, 11, None, None)],
        )
        self.assertEqual(side_by_side(one, other, 4, 5), [(4, 4, 1, 5), (5, 5, None, 5)])

    def test_none_and_no_row_are_one_row(self):
        self.assertEqual(side_by_side([], [], 0, 399), [(0, 399, None, None)])
        self.assertEqual(side_by_side([(2, 3, None)], [(5, 6, None)], 0, 9), [(0, 9, None, None)])
        self.assertEqual(side_by_side([(2, 3, None)], [(0, 9, 4)], 0, 9), [(0, 9, None, 4)])

    def test_untidy_strips(self):
        one = [(0, 1, 1), (2, 3, 1)]
        other = [(0, 0, 2), (1, 2, 2), (3, 3, 2)]
        self.assertEqual(side_by_side(one, other, 0, 3), [(0, 3, 1, 2)])

    def test_both_change_on_one_day(self):
        self.assertEqual(side_by_side([(0, 4, 1), (5, 9, 2)], [(0, 4, 2), (5, 9, 1)], 0, 9), [(0, 4, 1, 2), (5, 9, 2, 1)])

    def test_a_strip_beside_itself(self):
        strip = [(0, 4, 1), (5, 6, 1), (7, 8, None), (11, 12, 0)]
        self.assertEqual(
            side_by_side(strip, strip, 2, 14),
            [(2, 6, 1, 1), (7, 10, None, None), (11, 12, 0, 0), (13, 14, None, None)],
        )

    def test_four_hundred_days_of_unlike_marks(self):
        strip = [(day, day, day % 3) for day in range(400)]
        self.assertEqual(side_by_side(strip, strip, 0, 399), [(day, day, day % 3, day % 3) for day in range(400)])

    def test_all_small_strips(self):
        for shift in (0, 397):
            tellings = list(told_over(3, shift))
            days = list(stretches(shift - 1, shift + 3))
            for one, other in itertools.product(tellings, repeat=2):
                for first, last in days:
                    self.hold(one, other, first, last)

    def hold(self, one, other, first, last):
        want = {day: one.get(day, (None,)) + other.get(day, (None,)) for day in range(first, last + 1)}
        one_ways, other_ways = ways(one), ways(other)
        got = side_by_side(one_ways[0], other_ways[-1], first, last)
        self.check(got, want)
        self.check(side_by_side(one_ways[-1], other_ways[0], first, last), want)
        turned = side_by_side(other_ways[-1], one_ways[0], first, last)
        self.assertEqual(turned, [(start, end, mark, beside) for start, end, beside, mark in got])


class Own(unittest.TestCase):
    CALLS = (
        lambda strip: joined(strip),
        lambda strip: cut(strip, 0, 399),
        lambda strip: cut(strip, 2, 7),
        lambda strip: filled(strip, 0, 399),
        lambda strip: filled(strip, 2, 7),
        lambda strip: laid(strip, 1, 2, 9),
        lambda strip: laid(strip, 0, 399, 9),
        lambda strip: side_by_side(strip, strip, 0, 9),
        lambda strip: side_by_side(strip, [], 0, 9),
        lambda strip: side_by_side([], strip, 0, 9),
    )
    STRIPS = (
        (),
        ((0, 399, 9),),
        ((0, 399, None),),
        ((0, 3, 1), (5, 8, None)),
        ((0, 1, 1), (2, 3, 1), (5, 8, 2), (9, 9, 2)),
    )

    def test_what_was_handed_in_stays_as_it_was(self):
        for call, rows in itertools.product(self.CALLS, self.STRIPS):
            strip = list(rows)
            call(strip)
            mark_on(strip, 2)
            self.assertEqual(strip, list(rows))

    def test_rows_in_any_order_stay_in_theirs(self):
        rows = [(5, 6, 1), (0, 1, None), (2, 4, 1)]
        joined(rows)
        self.assertEqual(rows, [(5, 6, 1), (0, 1, None), (2, 4, 1)])

    def test_a_list_that_was_told_is_a_new_one(self):
        for call, rows in itertools.product(self.CALLS, self.STRIPS):
            strip = list(rows)
            told = call(strip)
            self.assertIsNot(told, strip)
            kept = list(told)
            told.append((390, 390, 1))
            self.assertEqual(strip, list(rows))
            again = call(strip)
            self.assertIsNot(again, told)
            self.assertEqual(again, kept)

    def test_what_was_told_stays_when_the_strip_is_changed(self):
        for call, rows in itertools.product(self.CALLS, self.STRIPS):
            strip = list(rows)
            told = call(strip)
            kept = list(told)
            strip.append((399, 399, 0))
            strip[0] = (0, 0, 77)
            self.assertEqual(told, kept)


if __name__ == "__main__":
    unittest.main()
