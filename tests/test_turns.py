"""Points 31 to 34, and what point 9 says of two turns."""

import itertools
import unittest

from reckoning import SCRIPTS, THINGS, done, fewest
from unsaybook import errors
from unsaybook.findings import Book
from unsaybook.turns import read_with, unlike, unlike_values

LACKS = "lacks"


def pairs(log):
    """All pairs of turns, or of a long book's turns every pair of some."""
    turns = range(log.now() + 1)
    if log.now() > 30:
        turns = (0, 1, 2, 3, *range(7, 60, 6), 58, 59, 60)
    return itertools.product(turns, repeat=2)


def of_key(boxes, key):
    return [box for box in boxes if box[0] == key]


def days_of(boxes):
    return [(box[0], day) for box in boxes for day in range(box[1], box[2] + 1)]


class Boxes(unittest.TestCase):
    def check(self, got, want):
        self.assertIs(type(got), list)
        self.assertTrue(all([type(box) is tuple for box in got]))
        self.assertEqual(got, want)

    def test_speakers_of_any_two_turns(self):
        for keys, script in SCRIPTS:
            book, log = done(keys, script)
            for one, other in pairs(log):
                self.check(unlike(book, one, other), log.boxes(one, other))

    def test_values_of_any_two_turns(self):
        for keys, script in SCRIPTS:
            book, log = done(keys, script)
            for one, other in pairs(log):
                self.check(unlike_values(book, one, other), log.boxes(one, other, of_values=True))

    def test_none_is_the_turn_now(self):
        for keys, script in SCRIPTS:
            book, log = done(keys, script)
            for ask, of_values in ((unlike, False), (unlike_values, True)):
                for turn in range(log.now() + 1):
                    self.assertEqual(ask(book, turn, None), log.boxes(turn, log.now(), of_values))
                    self.assertEqual(ask(book, None, turn), log.boxes(log.now(), turn, of_values))
                self.assertEqual(ask(book, None, None), [])

    def test_a_turn_with_itself(self):
        for keys, script in SCRIPTS:
            book, log = done(keys, script)
            for turn in range(log.now() + 1):
                self.assertEqual((unlike(book, turn, turn), unlike_values(book, turn, turn)), ([], []))

    def test_exchanged_turns(self):
        for keys, script in SCRIPTS:
            book, log = done(keys, script)
            for one, other in pairs(log):
                for ask in (unlike, unlike_values):
                    turned = [(key, first, last, b, a) for key, first, last, a, b in ask(book, other, one)]
                    self.assertEqual(ask(book, one, other), turned)

    def test_days_of_values_are_days_of_speakers(self):
        for keys, script in SCRIPTS:
            book, log = done(keys, script)
            for one, other in pairs(log):
                speakers, values = days_of(unlike(book, one, other)), days_of(unlike_values(book, one, other))
                self.assertEqual(len(speakers), len(set(speakers)))
                self.assertEqual(len(values), len(set(values)))
                self.assertLessEqual(set(values), set(speakers))

    def test_an_ordinary_book(self):
        book = Book(["b", "a"])
        book.find("a", 0, 9, 5)
        book.find("b", 3, 3, 0)
        book.find("a", 5, 14, 5)
        self.assertEqual(unlike(book, 1, 3), [("b", 3, 3, None, 1), ("a", 5, 9, 0, 2), ("a", 10, 14, None, 2)])
        self.assertEqual(unlike(book, 3, 1), [("b", 3, 3, 1, None), ("a", 5, 9, 2, 0), ("a", 10, 14, 2, None)])
        self.assertEqual(unlike_values(book, 1, 3), [("b", 3, 3, None, 0), ("a", 10, 14, None, 5)])
        self.assertEqual(unlike_values(book, 0, 3), [("b", 3, 3, None, 0), ("a", 0, 14, None, 5)])
        self.assertEqual(unlike(book, 0, 3)[1:], [("a", 0, 4, None, 0), ("a", 5, 14, None, 2)])

    def test_other_speakers_with_the_same_values(self):
        book = Book(["a"])
        book.find("a", 0, 9, 5)
        book.find("a", 0, 9, 5)
        self.assertEqual(unlike(book, 1, 2), [("a", 0, 9, 0, 1)])
        self.assertEqual(unlike_values(book, 1, 2), [])

    def test_values_alike_between_parts_them(self):
        book = Book(["a"])
        book.find("a", 4, 5, 1)
        book.find("a", 0, 9, 1)
        self.assertEqual(unlike_values(book, 1, 2), [("a", 0, 3, None, 1), ("a", 6, 9, None, 1)])
        self.assertEqual(unlike(book, 1, 2), [("a", 0, 3, None, 1), ("a", 4, 5, 0, 1), ("a", 6, 9, None, 1)])

    def test_boxes_of_two_keys_are_not_one(self):
        book = Book(["b", "a"])
        book.find("b", 0, 9, 1)
        book.find("a", 10, 19, 1)
        self.assertEqual(unlike_values(book, 0, 2), [("b", 0, 9, None, 1), ("a", 10, 19, None, 1)])

    def test_nought_is_no_nobody(self):
        book = Book(["a"])
        book.find("a", 0, 399, 0)
        self.assertEqual(unlike(book, 0, 1), [("a", 0, 399, None, 0)])
        self.assertEqual(unlike_values(book, 1, 0), [("a", 0, 399, 0, None)])

    def test_the_list_is_the_askers_own(self):
        book, log = done(*SCRIPTS[5])
        for ask in (unlike, unlike_values):
            want = ask(book, 0, 4)
            self.assertNotEqual(want, [])
            ask(book, 0, 4).clear()
            ask(book, 0, 4).append("x")
            self.assertEqual(ask(book, 0, 4), want)
        self.assertEqual([book.table("a", turn) for turn in range(9)], [log.table("a", turn) for turn in range(9)])

    def test_what_two_turns_knew_stays(self):
        book, _ = done(("a",), (("a", 3, 9, 5), ("a", 5, 6, 7)))
        told = (unlike(book, 1, 2), unlike_values(book, 1, 2))
        book.withdraw(0)
        book.find("a", 0, 399, 1)
        self.assertEqual((unlike(book, 1, 2), unlike_values(book, 1, 2)), told)


class Refusals(unittest.TestCase):
    def refused(self, book, one, other, turn):
        for ask in (unlike, unlike_values):
            ahead = (book.now(), book.table("a"), book.table("b"))
            with self.assertRaises(errors.UnsayError) as caught:
                ask(book, one, other)
            self.assertIs(type(caught.exception), errors.NoTurn)
            self.assertIs(caught.exception.turn, turn)
            self.assertEqual((book.now(), book.table("a"), book.table("b")), ahead)

    def test_turns_that_are_none(self):
        for script in ((), (("a", 0, 9, 5),), (("a", 0, 9, 5), ("b", 0, 9, 5), 1)):
            book, log = done(("a", "b"), script)
            for turn in [thing for thing in THINGS if thing is not None] + [log.now() + 1, log.now() + 2]:
                for good in (0, log.now(), None):
                    self.refused(book, turn, good, turn)
                    self.refused(book, good, turn, turn)

    def test_the_first_turn_is_looked_at_first(self):
        book, _ = done(("a", "b"), (("a", 0, 9, 5),))
        things = [thing for thing in THINGS if thing is not None] + [2]
        for one, other in itertools.product(things, repeat=2):
            self.refused(book, one, other, one)


class Reading(unittest.TestCase):
    def test_a_table_read_with_its_boxes(self):
        for keys, script in SCRIPTS:
            book, log = done(keys, script)
            for one, other in pairs(log):
                boxes = unlike(book, one, other)
                for key in keys:
                    told = read_with(book.table(key, one), of_key(boxes, key))
                    self.assertEqual(told, book.table(key, other))

    def test_no_boxes(self):
        self.assertEqual(read_with([], []), [])
        self.assertEqual(read_with([(0, 4, 1), (5, 9, 2)], []), [(0, 4, 1), (5, 9, 2)])
        self.assertEqual(read_with([(0, 4, 1), (5, 9, 1), (11, 12, 1)], []), [(0, 9, 1), (11, 12, 1)])

    def test_within_a_row(self):
        strip = [(0, 9, 1)]
        self.assertEqual(read_with(strip, [("a", 4, 5, 1, 2)]), [(0, 3, 1), (4, 5, 2), (6, 9, 1)])
        self.assertEqual(read_with(strip, [("a", 4, 5, 1, None)]), [(0, 3, 1), (6, 9, 1)])
        self.assertEqual(read_with(strip, [("a", 0, 9, 1, None)]), [])
        self.assertEqual(read_with(strip, [("a", 0, 0, 1, None), ("a", 9, 9, 1, 0)]), [(1, 8, 1), (9, 9, 0)])

    def test_over_several_rows(self):
        strip = [(0, 2, 1), (3, 5, 2), (8, 9, 3)]
        self.assertEqual(read_with(strip, [("a", 1, 8, 7, 0)]), [(0, 0, 1), (1, 8, 0), (9, 9, 3)])
        self.assertEqual(read_with(strip, [("a", 1, 8, 7, None)]), [(0, 0, 1), (9, 9, 3)])

    def test_beyond_the_rows(self):
        self.assertEqual(read_with([(5, 6, 1)], [("a", 0, 3, None, 1)]), [(0, 3, 1), (5, 6, 1)])
        self.assertEqual(read_with([(5, 6, 1)], [("a", 0, 4, None, 1)]), [(0, 6, 1)])
        self.assertEqual(read_with([(5, 6, 1)], [("a", 7, 399, None, 1)]), [(5, 399, 1)])
        self.assertEqual(read_with([(5, 6, 1)], [("a", 8, 399, 2, None)]), [(5, 6, 1)])
        self.assertEqual(read_with([], [("a", 0, 399, None, 0)]), [(0, 399, 0)])
        self.assertEqual(read_with([], [("a", 0, 399, 0, None)]), [])

    def test_boxes_beside_one_another_with_one_number(self):
        boxes = [("a", 0, 3, 5, 1), ("a", 4, 6, None, 1), ("a", 7, 7, 1, 2)]
        self.assertEqual(read_with([(0, 3, 5), (8, 8, 2)], boxes), [(0, 6, 1), (7, 8, 2)])

    def test_whatever_the_key_is_called(self):
        for key in ("a", "zzzzzzzz", "sum"):
            self.assertEqual(read_with([(0, 9, 1)], [(key, 4, 9, 1, 2)]), [(0, 3, 1), (4, 9, 2)])

    def test_all_small_strips(self):
        for sights in itertools.product((LACKS, 0, 1), repeat=4):
            told = {day: (sight,) for day, sight in enumerate(sights) if sight != LACKS}
            for others in itertools.product((LACKS, None, 0, 2), repeat=4):
                singles = [("a", day, day, 9, other) for day, other in enumerate(others) if other != LACKS]
                longest = fewest({day: (9, other) for day, other in enumerate(others) if other != LACKS})
                want = {day: told[day] for day in told if others[day] == LACKS}
                want.update({day: (other,) for day, other in enumerate(others) if other not in (LACKS, None)})
                for strip in (fewest(told), [(day, day, *told[day]) for day in sorted(told)]):
                    self.assertEqual(read_with(strip, singles), fewest(want))
                    self.assertEqual(read_with(strip, [("a", *row) for row in longest]), fewest(want))

    def test_what_was_handed_in_stays(self):
        rows, told = ((0, 4, 1), (5, 9, 1), (11, 12, 3)), (("a", 2, 6, 1, 2), ("a", 11, 11, 3, None))
        for strip, boxes in ((list(rows), list(told)), (list(rows), []), ([], list(told)), ([(0, 9, 1)], [])):
            kept = (list(strip), list(boxes))
            got = read_with(strip, boxes)
            want = list(got)
            self.assertEqual((strip, boxes), kept)
            self.assertIsNot(got, strip)
            got.append("x")
            self.assertEqual((strip, boxes), kept)
            self.assertEqual(read_with(strip, boxes), want)
            self.assertTrue(all([type(row) is tuple for row in want]))


if __name__ == "__main__":
    unittest.main()
