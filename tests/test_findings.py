"""Points 21 to 28, with 2 to 6 as far as they speak of books."""

import unittest

from reckoning import DAYS, EIGHT, SCRIPTS, THINGS, Log, do, done
from unsaybook import errors
from unsaybook.findings import Book

NO_KEYS = [thing for thing in THINGS if thing != "a"] + ["c", "aa", 0]
NO_DAYS = [*THINGS, 400, 401]
MOST = 10 ** 9


def state(book):
    """All that a book tells, so that it can be seen that nothing was changed."""
    turns = range(book.now() + 1)
    told = [book.all_keys(), book.now(), [book.deed_at(turn) for turn in turns[1:]]]
    told.append([book.table(key, turn) for key in book.all_keys() for turn in turns])
    entered = [deed for deed in told[2] if deed[0] == "find"]
    told.append([book.found(number) for number in range(len(entered))])
    return told


def full_book():
    book = Book(["a", "b"])
    for place in range(59):
        book.find("a", place, 100 + place, place)
    book.withdraw(7)
    return book


class Held(unittest.TestCase):
    def refused(self, book, refusal, field, thing, call):
        """Refused with this class and this very thing, and nothing is changed."""
        ahead = state(book)
        with self.assertRaises(errors.UnsayError) as caught:
            call()
        self.assertIs(type(caught.exception), refusal)
        if field is not None:
            self.assertIs(getattr(caught.exception, field), thing)
        self.assertEqual(state(book), ahead)

    def no_key(self, book, key, call):
        self.refused(book, errors.NoKey, "key", key, call)

    def no_day(self, book, day, call):
        self.refused(book, errors.NoDay, "day", day, call)

    def no_value(self, book, thing, call):
        self.refused(book, errors.NoValue, "thing", thing, call)

    def no_finding(self, book, number, call):
        self.refused(book, errors.NoFinding, "number", number, call)

    def no_turn(self, book, turn, call):
        self.refused(book, errors.NoTurn, "turn", turn, call)

    def full(self, book, call):
        self.refused(book, errors.Full, None, None, call)


class Keys(unittest.TestCase):
    def test_one_to_eight_in_their_order(self):
        for count in range(1, 9):
            self.assertEqual(Book(list(EIGHT[:count])).all_keys(), list(EIGHT[:count]))

    def test_what_is_no_list_of_names(self):
        things = [
            *THINGS, ("a", "b"), ("a",), "abc", {"a": True}, {"a": 1, "b": 2}, 1, [], [*EIGHT, "b"],
            ["a", "a"], ["a", "b", "a"], ["a", "b", "c", "d", "e", "f", "g", "a"], ["a", None], [None], [True, "a"],
            ["a", 1], [1, 2], ["a", ["b"]], [["a"], ["a"]], [{}], [{"a": 1}, "a"], [()], [("a",)], [""], ["a", ""],
            ["A"], ["abcdefghi"], ["a b"], ["a,b"], ["a "], ["a1"], ["a\n"], [10 ** 99], list("abcdefghijklmnop"),
        ]
        for thing in things:
            if thing == ["a"]:
                continue
            with self.assertRaises(errors.UnsayError) as caught:
                Book(thing)
            self.assertIs(type(caught.exception), errors.NoKeys, thing)

    def test_what_was_handed_in_stays_and_may_be_changed_afterwards(self):
        keys = ["b", "a"]
        book = Book(keys)
        book.find("b", 1, 2, 3)
        self.assertEqual(keys, ["b", "a"])
        keys.append("c")
        keys[0] = "d"
        self.assertEqual(book.all_keys(), ["b", "a"])
        self.assertEqual(book.find("b", 4, 5, 6), 1)
        for key in ("c", "d"):
            self.assertRaises(errors.NoKey, book.find, key, 0, 0, 0)
            self.assertRaises(errors.NoKey, book.table, key)

    def test_the_told_list_is_the_askers_own(self):
        book = Book(["b", "a"])
        told = book.all_keys()
        told.clear()
        again = book.all_keys()
        again.append("c")
        self.assertEqual(book.all_keys(), ["b", "a"])
        self.assertRaises(errors.NoKey, book.table, "c")
        self.assertEqual(book.table("a"), [])

    def test_two_books_have_nothing_in_common(self):
        keys = ["a", "b"]
        one, other = Book(keys), Book(keys)
        one.find("a", 0, 5, 1)
        one.find("b", 3, 3, 2)
        self.assertEqual((other.now(), other.table("a"), other.table("b")), (0, [], []))
        self.assertRaises(errors.NoFinding, other.found, 0)
        self.assertEqual(other.find("b", 9, 9, 9), 0)
        one.withdraw(0)
        self.assertEqual(other.found(0), ("b", 9, 9, 9, 1, None))
        self.assertEqual(other.deed_at(1), ("find", 0))
        self.assertEqual(one.found(0), ("a", 0, 5, 1, 1, 3))
        self.assertEqual((one.now(), other.now()), (3, 1))


class Entering(Held):
    def test_numbers_from_nought_on(self):
        book = Book(["a", "b"])
        for number in range(10):
            told = book.find("ab"[number % 2], number, number + 5, 7)
            self.assertEqual(told, number)
            self.assertIs(type(told), int)

    def test_numbers_count_findings_not_deeds(self):
        book = Book(["a"])
        self.assertEqual([book.find("a", 0, 0, 0), book.find("a", 0, 0, 0)], [0, 1])
        book.withdraw(1)
        self.assertEqual(book.find("a", 0, 0, 0), 2)

    def test_the_outermost_days_and_values(self):
        rows = ((0, 0, MOST), (399, 399, -MOST), (0, 399, 0), (5, 5, -1))
        for first, last, value in rows:
            book = Book(["a"])
            self.assertEqual(book.find("a", first, last, value), 0)
            self.assertEqual(book.found(0), ("a", first, last, value, 1, None))

    def test_keys_that_are_none(self):
        book = Book(["a", "b"])
        book.find("a", 0, 0, 0)
        for key in [*THINGS, "c", "ab", "a ", 0]:
            if key in ("a", "b"):
                continue
            self.no_key(book, key, lambda: book.find(key, 0, 0, 0))

    def test_days_that_are_none(self):
        book = Book(["a"])
        book.find("a", 0, 0, 0)
        for day in NO_DAYS:
            self.no_day(book, day, lambda: book.find("a", day, 399, 0))
            self.no_day(book, day, lambda: book.find("a", 0, day, 0))

    def test_a_last_day_below_the_first(self):
        book = Book(["a"])
        for first, last in ((1, 0), (399, 398), (399, 0), (200, 100)):
            self.no_day(book, last, lambda: book.find("a", first, last, 0))

    def test_values_that_are_none(self):
        book = Book(["a"])
        book.find("a", 0, 0, 0)
        for value in [thing for thing in THINGS if thing != -1] + [MOST + 1, -MOST - 1]:
            self.no_value(book, value, lambda: book.find("a", 0, 0, value))

    def test_the_first_that_is_due(self):
        for book in (Book(["a"]), full_book()):
            for bad in ([], None, "c", 400, True):
                other = {"bad": 1}
                self.no_key(book, bad, lambda: book.find(bad, other, other, other))
                self.no_key(book, bad, lambda: book.find(bad, 0, 0, other))
                self.no_key(book, bad, lambda: book.find(bad, 0, other, 0))
                self.no_key(book, bad, lambda: book.find(bad, 0, 0, 0))
                self.no_day(book, bad, lambda: book.find("a", bad, other, other))
                self.no_day(book, bad, lambda: book.find("a", bad, other, 0))
                self.no_day(book, bad, lambda: book.find("a", bad, 0, other))
                self.no_day(book, bad, lambda: book.find("a", 0, bad, other))
                self.no_day(book, bad, lambda: book.find("a", 0, bad, 0))
            self.no_day(book, 4, lambda: book.find("a", 5, 4, None))
            self.no_value(book, None, lambda: book.find("a", 4, 4, None))

    def test_the_sixtieth_deed_is_done(self):
        book = full_book()
        self.assertEqual(book.now(), 60)
        self.assertEqual(book.deed_at(60), ("withdraw", 7))
        self.full(book, lambda: book.find("a", 0, 0, 0))
        other = Book(["a"])
        self.assertEqual([other.find("a", 0, 0, 0) for _ in range(60)], list(range(60)))
        self.full(other, lambda: other.find("a", 0, 0, 0))
        self.assertEqual(other.speaks("a", 0), 59)

    def test_what_was_refused_takes_no_room_and_no_number(self):
        book = Book(["a"])
        for place in range(60):
            self.assertRaises(errors.NoKey, book.find, "b", 0, 0, 0)
            self.assertRaises(errors.NoDay, book.find, "a", 0, 400, 0)
            self.assertRaises(errors.NoValue, book.find, "a", 0, 0, "0")
            self.assertRaises(errors.NoFinding, book.withdraw, place)
            self.assertEqual(book.find("a", 0, 0, 0), place)


class Withdrawing(Held):
    def test_it_tells_none(self):
        book = Book(["a"])
        book.find("a", 0, 0, 0)
        self.assertIsNone(book.withdraw(0))

    def test_numbers_that_are_none(self):
        book = Book(["a"])
        for number in [*THINGS, 0, 1]:
            self.no_finding(book, number, lambda: book.withdraw(number))
        book.find("a", 0, 0, 0)
        book.find("a", 0, 0, 0)
        for number in [*THINGS, 2, 3]:
            self.no_finding(book, number, lambda: book.withdraw(number))
        book.withdraw(1)
        for number in [*THINGS, 2, 3]:
            self.no_finding(book, number, lambda: book.withdraw(number))

    def test_one_that_is_gone(self):
        book = Book(["a"])
        for _ in range(3):
            book.find("a", 0, 0, 0)
        for number in (1, 0, 2):
            book.withdraw(number)
            self.refused(book, errors.Gone, "number", number, lambda: book.withdraw(number))
        book.find("a", 0, 0, 0)
        for number in (0, 1, 2):
            self.refused(book, errors.Gone, "number", number, lambda: book.withdraw(number))
        book.withdraw(3)

    def test_the_order_in_a_full_book(self):
        book = full_book()
        for number in [*THINGS, 59, 60]:
            self.no_finding(book, number, lambda: book.withdraw(number))
        self.refused(book, errors.Gone, "number", 7, lambda: book.withdraw(7))
        for number in (0, 6, 8, 58):
            self.full(book, lambda: book.withdraw(number))

    def test_the_sixtieth_deed_may_be_a_withdrawal(self):
        book = Book(["a"])
        for _ in range(30):
            book.find("a", 0, 0, 0)
        for number in range(29):
            book.withdraw(number)
        self.assertEqual(book.now(), 59)
        self.assertIsNone(book.withdraw(29))
        self.assertEqual((book.now(), book.speaks("a", 0)), (60, None))
        self.refused(book, errors.Gone, "number", 29, lambda: book.withdraw(29))
        self.full(book, lambda: book.find("a", 0, 0, 0))


class Turns(Held):
    def test_the_turn_now(self):
        for keys, script in SCRIPTS:
            book, log = Book(list(keys)), Log(keys)
            self.assertEqual(book.now(), 0)
            for turn, deed in enumerate(script, start=1):
                do(book, log, deed)
                self.assertEqual(book.now(), turn)
                self.assertIs(type(book.now()), int)

    def test_the_deed_of_each_turn(self):
        for keys, script in SCRIPTS:
            book, log = done(keys, script)
            for turn in range(1, log.now() + 1):
                self.assertEqual(book.deed_at(turn), log.deeds[turn - 1])
                self.assertIs(type(book.deed_at(turn)), tuple)

    def test_turns_without_a_deed(self):
        for deeds in range(4):
            book = Book(["a"])
            for _ in range(deeds):
                book.find("a", 0, 0, 0)
            for turn in [*THINGS, 0, None, True, deeds + 1, deeds + 2, -deeds]:
                self.no_turn(book, turn, lambda: book.deed_at(turn))

    def test_the_six_of_each_finding(self):
        for keys, script in SCRIPTS:
            book, log = Book(list(keys)), Log(keys)
            for deed in script:
                do(book, log, deed)
                for number, finding in enumerate(log.findings):
                    self.assertEqual(book.found(number), tuple(finding))
                    self.assertIs(type(book.found(number)), tuple)

    def test_ahead_of_and_behind_a_withdrawal(self):
        book = Book(["a", "b"])
        book.find("b", 3, 4, -5)
        book.find("a", 0, 0, 0)
        self.assertEqual(book.found(0), ("b", 3, 4, -5, 1, None))
        book.withdraw(0)
        self.assertEqual(book.found(0), ("b", 3, 4, -5, 1, 3))
        self.assertEqual(book.found(1), ("a", 0, 0, 0, 2, None))

    def test_findings_that_are_none(self):
        book = Book(["a"])
        for count in range(3):
            for number in [*THINGS, count, count + 1]:
                self.no_finding(book, number, lambda: book.found(number))
            book.find("a", 0, 0, 0)


class Speaking(Held):
    def test_each_day_of_each_key_at_each_turn(self):
        for keys, script in SCRIPTS:
            book, log = done(keys, script)
            for turn in range(log.now() + 1):
                for key in keys:
                    self.assertEqual([book.speaks(key, day, turn) for day in DAYS], log.speakers(key, turn))
                    self.assertEqual([book.value(key, day, turn) for day in DAYS], log.values(key, turn))

    def test_the_turn_left_out_and_none(self):
        for keys, script in SCRIPTS:
            book, log = Book(list(keys)), Log(keys)
            for deed in (None, *script):
                if deed is not None:
                    do(book, log, deed)
                for key in keys:
                    days = (0, 3, 6, 7, 20, 25, 398, 399)
                    speakers, values = log.speakers(key, log.now()), log.values(key, log.now())
                    for day in days:
                        self.assertEqual((book.speaks(key, day), book.value(key, day)), (speakers[day], values[day]))
                        self.assertEqual(book.speaks(key, day, None), speakers[day])
                        self.assertEqual(book.value(key, day, None), values[day])

    def test_the_later_one_speaks_and_the_earlier_one_again(self):
        book = Book(["a"])
        book.find("a", 0, 9, 5)
        book.find("a", 4, 6, 0)
        self.assertEqual([book.speaks("a", day) for day in (3, 4, 6, 7, 10)], [0, 1, 1, 0, None])
        self.assertEqual([book.value("a", day) for day in (3, 4, 6, 7, 10)], [5, 0, 0, 5, None])
        book.withdraw(1)
        self.assertEqual([book.speaks("a", day) for day in (3, 4, 6, 7, 10)], [0, 0, 0, 0, None])
        self.assertEqual([book.speaks("a", day, 2) for day in (3, 4, 6, 7, 10)], [0, 1, 1, 0, None])
        self.assertEqual([book.speaks("a", day, 1) for day in (3, 4, 6, 7, 10)], [0, 0, 0, 0, None])
        self.assertEqual([book.speaks("a", day, 0) for day in (3, 4, 6, 7, 10)], [None] * 5)

    def test_nought_is_a_number_and_a_value(self):
        book = Book(["a"])
        book.find("a", 0, 0, 0)
        self.assertEqual((book.speaks("a", 0), book.value("a", 0)), (0, 0))
        self.assertEqual((book.speaks("a", 1), book.value("a", 1)), (None, None))

    def test_refusals_in_their_order(self):
        book = Book(["a"])
        book.find("a", 0, 399, 1)
        for ask in (book.speaks, book.value):
            for key in NO_KEYS:
                self.no_key(book, key, lambda: ask(key, 0))
                self.no_key(book, key, lambda: ask(key, 400, 9))
                self.no_key(book, key, lambda: ask(key, None, None))
            for day in NO_DAYS:
                self.no_day(book, day, lambda: ask("a", day))
                self.no_day(book, day, lambda: ask("a", day, 9))
                self.no_day(book, day, lambda: ask("a", day, None))
            for turn in [thing for thing in THINGS if thing is not None] + [2, 3]:
                self.no_turn(book, turn, lambda: ask("a", 0, turn))


class Tables(Held):
    def test_each_key_at_each_turn(self):
        for keys, script in SCRIPTS:
            book, log = done(keys, script)
            for key in keys:
                for turn in range(log.now() + 1):
                    told = book.table(key, turn)
                    self.assertEqual(told, log.table(key, turn))
                    self.assertIs(type(told), list)
                    self.assertTrue(all([type(row) is tuple for row in told]))

    def test_the_turn_left_out_and_none(self):
        for keys, script in SCRIPTS:
            book, log = Book(list(keys)), Log(keys)
            for deed in script:
                do(book, log, deed)
                for key in keys:
                    self.assertEqual(book.table(key), log.table(key, log.now()))
                    self.assertEqual(book.table(key, None), log.table(key, log.now()))

    def test_rows_beside_one_another(self):
        book = Book(["a"])
        book.find("a", 0, 9, 1)
        book.find("a", 10, 19, 1)
        self.assertEqual(book.table("a"), [(0, 9, 0), (10, 19, 1)])
        book.find("a", 5, 14, 1)
        self.assertEqual(book.table("a"), [(0, 4, 0), (5, 14, 2), (15, 19, 1)])
        book.withdraw(1)
        self.assertEqual(book.table("a"), [(0, 4, 0), (5, 14, 2)])
        book.withdraw(2)
        self.assertEqual(book.table("a"), [(0, 9, 0)])
        book.withdraw(0)
        self.assertEqual(book.table("a"), [])

    def test_the_told_list_is_the_askers_own(self):
        book, log = done(*SCRIPTS[3])
        for turn in (*range(log.now() + 1), None):
            want = book.table("a", turn)
            book.table("a", turn).clear()
            book.table("a", turn).append((399, 399, 77))
            told = book.table("a", turn)
            self.assertEqual(told, want)
            self.assertIsNot(told, book.table("a", turn))
        for turn in range(log.now() + 1):
            self.assertEqual([book.speaks("a", day, turn) for day in DAYS], log.speakers("a", turn))

    def test_a_told_list_stays_when_deeds_follow(self):
        book = Book(["a"])
        book.find("a", 0, 9, 1)
        told = book.table("a")
        book.find("a", 5, 5, 1)
        book.withdraw(0)
        self.assertEqual(told, [(0, 9, 0)])

    def test_refusals_in_their_order(self):
        book = Book(["a"])
        book.find("a", 0, 399, 1)
        for key in NO_KEYS:
            self.no_key(book, key, lambda: book.table(key))
            self.no_key(book, key, lambda: book.table(key, 9))
            self.no_key(book, key, lambda: book.table(key, key))
        for turn in [thing for thing in THINGS if thing is not None] + [2, 3]:
            self.no_turn(book, turn, lambda: book.table("a", turn))

    def test_a_turn_that_comes_later_is_none_yet(self):
        book = Book(["a"])
        self.no_turn(book, 1, lambda: book.table("a", 1))
        book.find("a", 0, 0, 0)
        self.assertEqual(book.table("a", 1), [(0, 0, 0)])


class Staying(unittest.TestCase):
    def test_what_was_told_of_a_turn_stays(self):
        for keys, script in SCRIPTS:
            book, log = Book(list(keys)), Log(keys)
            told = [[book.table(key) for key in keys]]
            for deed in script:
                do(book, log, deed)
                told.append([book.table(key) for key in keys])
                for turn in range(book.now() + 1):
                    self.assertEqual([book.table(key, turn) for key in keys], told[turn])

    def test_deeds_stay(self):
        for keys, script in SCRIPTS:
            book, log = Book(list(keys)), Log(keys)
            for deed in script:
                do(book, log, deed)
                told = [book.deed_at(turn) for turn in range(1, book.now() + 1)]
                self.assertEqual(told, log.deeds)

    def test_to_ask_changes_nothing(self):
        for keys, script in SCRIPTS:
            book, _ = done(keys, script)
            ahead = state(book)
            for key in keys:
                book.speaks(key, 5)
                book.value(key, 5)
            self.assertEqual(state(book), ahead)


if __name__ == "__main__":
    unittest.main()
