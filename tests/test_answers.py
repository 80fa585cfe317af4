"""Points 50 to 53, with 4, 5, 7, 26, 42 and 43 as far as they speak of answers."""

import copy
import random
import unittest

from reckoning import DAYS, SCRIPTS, THINGS, do, done, drawn_text, fewest
from unsaybook import errors
from unsaybook.answers import answered, plainly
from unsaybook.findings import Book
from unsaybook.questiontexts import question_of

NO_TURNS = [thing for thing in THINGS if thing is not None] + [61, "now", [None]]
# Of two keys, {0} and {1}.
TEXTS = (
    "number 7", "value {0} 5", "value {1} 399", "sum {0} 0 399", "count {1},{0} 3 40", "least {0},{1} 0 9",
    "greatest {0} 5 398", "since {0} 1 0 399", "since {1} 0 2 9", "since {0} 5 3 7", "part {0} {1} 0 399",
    "part {0} {0} 3 9", "change 1 {0} 0 399", "change 2 {1} 0 20", "change 3 {0} 4 30", "change 400 {0} 0 399",
    "plus ( sum {0} 0 5 ) ( value {0} 4 )", "minus ( value {1} 4 ) ( count {0} 2 6 )",
    "less ( value {0} 4 ) ( value {1} 4 ) ( sum {0} 0 2 ) ( sum {1} 7 9 )",
    "same ( value {0} 4 ) ( value {1} 4 ) ( since {0} 0 0 9 ) ( change 1 {1} 0 399 )",
    "less ( number 1 ) ( same ( value {0} 3 ) ( value {0} 9 ) ( number 2 ) ( value {1} 6 ) ) ( value {0} 0 ) ( "
    "plus ( number 1 ) ( minus ( number 4 ) ( value {1} 2 ) ) )",
)


def texts_of(keys):
    # Where there is one key alone, no text can have it twice in a row of keys.
    return [text.format(keys[0], keys[-1]) for text in TEXTS if len(keys) > 1 or "," not in text]


def state(book):
    turns = range(book.now() + 1)
    told = [book.now(), book.all_keys(), [book.deed_at(turn) for turn in turns[1:]]]
    return copy.deepcopy(told + [book.table(key, turn) for key in book.all_keys() for turn in turns])


def days_of(grounds):
    return [(key, day) for key, first, last, _ in grounds for day in range(first, last + 1)]


class Held(unittest.TestCase):
    def check(self, book, log, text, turn):
        """Held against going through the days one by one."""
        told = answered(book, text, turn)
        self.assertEqual(told, log.answered(text, turn), (text, turn))
        self.assertEqual(plainly(book, text, turn), told[0], (text, turn))
        self.kinds(told)
        return told

    def kinds(self, told):
        self.assertIs(type(told), tuple)
        self.assertIn(type(told[0]), (int, type(None)))
        self.assertIs(type(told[1]), list)
        for row in told[1]:
            self.assertIs(type(row), tuple)
            self.assertEqual([type(part) for part in row[:3]], [str, int, int])

    def refused(self, book, refusal, field, thing, *told):
        """Refused by both with this class and this very thing, or one equal to it; nothing is changed."""
        ahead = state(book)
        for ask in (answered, plainly):
            with self.assertRaises(errors.UnsayError, msg=told) as caught:
                ask(book, *told)
            self.assertIs(type(caught.exception), refusal, told)
            if field == "turn":
                self.assertIs(caught.exception.turn, thing)
            self.assertEqual(getattr(caught.exception, field), thing, told)
        self.assertEqual(state(book), ahead)


class Answers(Held):
    def test_each_form_at_every_turn(self):
        for keys, script in SCRIPTS:
            book, log = done(keys, script)
            for turn in range(log.now() + 1):
                for text in texts_of(keys):
                    self.check(book, log, text, turn)

    def test_behind_every_deed(self):
        for keys, script in SCRIPTS:
            book, log = done(keys, ())
            for deed in script:
                do(book, log, deed)
                for text in texts_of(keys)[::4]:
                    self.check(book, log, text, log.now())

    def test_drawn_questions(self):
        draw = random.Random(11)
        for keys, script in SCRIPTS:
            book, log = done(keys, script)
            for _ in range(120):
                self.check(book, log, drawn_text(draw, keys, draw.randrange(4)), draw.randrange(log.now() + 1))

    def test_written_down(self):
        book, _ = done(("rain", "a"), (("rain", 2, 5, 7), ("rain", 4, 8, 7), ("a", 3, 3, -1)))
        for text, answer, grounds in (
            ("number 7", 7, []),
            ("value rain 4", 7, [("rain", 4, 4, 1)]),
            ("value rain 9", None, [("rain", 9, 9, None)]),
            ("sum rain 0 9", 49, [("rain", 0, 1, None), ("rain", 2, 3, 0), ("rain", 4, 8, 1), ("rain", 9, 9, None)]),
            ("count rain,a 3 4", 3, [("a", 3, 3, 2), ("a", 4, 4, None), ("rain", 3, 3, 0), ("rain", 4, 4, 1)]),
            ("since rain 7 0 8", 2, [("rain", 1, 1, None), ("rain", 2, 3, 0), ("rain", 4, 8, 1)]),
            ("since rain 7 3 8", 3, [("rain", 3, 3, 0), ("rain", 4, 8, 1)]),
            ("since rain 7 0 9", None, [("rain", 9, 9, None)]),
            ("since rain 8 0 8", None, [("rain", 8, 8, 1)]),
            ("change 1 rain 0 99", 2, [("rain", 0, 1, None), ("rain", 2, 2, 0)]),
            ("change 1 rain 2 99", 9, [("rain", 2, 3, 0), ("rain", 4, 8, 1), ("rain", 9, 9, None)]),
            ("part a rain 3 4", 2, [("a", 3, 3, 2), ("a", 4, 4, None), ("rain", 3, 3, 0), ("rain", 4, 4, 1)]),
            ("plus ( value rain 9 ) ( value a 3 )", None, [("a", 3, 3, 2), ("rain", 9, 9, None)]),
            ("plus ( value rain 3 ) ( value rain 2 )", 14, [("rain", 2, 3, 0)]),
            ("plus ( value rain 2 ) ( value rain 8 )", 14, [("rain", 2, 2, 0), ("rain", 8, 8, 1)]),
            ("minus ( value rain 10 ) ( value rain 12 )", None, [("rain", 10, 10, None), ("rain", 12, 12, None)]),
        ):
            self.assertEqual(answered(book, text), (answer, grounds), text)
            self.assertEqual(plainly(book, text), answer, text)

    def test_grounds_of_the_one_that_is_given_alone(self):
        book, _ = done(("a", "b"), (("a", 0, 0, 1), ("a", 1, 1, 2), ("b", 0, 399, 3)))
        for word, one, other, day in (
            ("less", 0, 1, 2), ("less", 1, 0, 3), ("less", 0, 0, 3), ("less", 5, 0, 3), ("less", 0, 5, 3),
            ("less", 5, 6, 3), ("same", 0, 1, 3), ("same", 0, 0, 2), ("same", 5, 6, 2), ("same", 5, 0, 3),
        ):
            text = f"{word} ( value a {one} ) ( value a {other} ) ( value b 2 ) ( value b 3 )"
            answer, grounds = answered(book, text)
            self.assertEqual(answer, 3)
            self.assertEqual(sorted(set(days_of(grounds))), sorted({("a", one), ("a", other), ("b", day)}), text)

    def test_keys_rise_as_texts_compare_whatever_their_order(self):
        keys = ("b", "aa", "ab", "z", "a", "ba")
        book, _ = done(keys, (("ba", 0, 9, 1),))
        for text in ("sum b,aa,ab,z,a,ba 0 9", "plus ( sum z,ba,a 0 9 ) ( sum b,ab,aa 0 9 )"):
            self.assertEqual([row[0] for row in answered(book, text)[1]], sorted(keys))

    def test_grounds_are_in_order_and_as_few_as_can_be(self):
        draw = random.Random(12)
        for keys, script in SCRIPTS:
            book, log = done(keys, script)
            for _ in range(40):
                grounds = answered(book, drawn_text(draw, keys, draw.randrange(4)))[1]
                self.assertEqual(days_of(grounds), sorted(set(days_of(grounds))))
                for row, behind in zip(grounds, grounds[1:]):
                    self.assertFalse(row[0] == behind[0] and row[2] + 1 == behind[1] and row[3] == behind[3], grounds)

    def test_a_question_that_reads_all_days_of_eight_keys(self):
        keys = tuple("hgfedcba")
        book, log = done(keys, [(key, place, 399 - place, place) for place, key in enumerate(keys)])
        for turn in range(9):
            self.check(book, log, "sum a,b,c,d,e,f,g,h 0 399", turn)

    def test_great_answers(self):
        book, _ = done(("a",), (("a", 0, 399, 10 ** 9),))
        text = "plus ( sum a 0 399 ) ( plus ( sum a 0 399 ) ( sum a 0 399 ) )"
        self.assertEqual(answered(book, text), (1200 * 10 ** 9, [("a", 0, 399, 0)]))
        self.assertEqual(plainly(book, text), 1200 * 10 ** 9)


class OtherBooks(Held):
    def test_the_same_answer_from_the_same_days(self):
        draw = random.Random(13)
        held = 0
        for keys, script in SCRIPTS:
            book, log = done(keys, script)
            for _ in range(60):
                text, turn = drawn_text(draw, keys, draw.randrange(4)), draw.randrange(log.now() + 1)
                answer, grounds = answered(book, text, turn)
                values = {
                    (key, day): None if number is None else log.findings[number][3]
                    for key, first, last, number in grounds for day in range(first, last + 1)
                }
                asked = question_of(text).asked_keys()
                other_script = self.made_otherwise(asked, values, draw)
                if len(other_script) <= 60 and len(asked) < 8:
                    other, other_log = done(("other", *reversed(asked)), other_script)
                    told = self.check(other, other_log, text, other_log.now())
                    self.assertEqual(told[0], answer, text)
                    self.assertEqual(days_of(told[1]), days_of(grounds), text)
                    held += 1
        self.assertGreater(held, 400)

    def made_otherwise(self, keys, values, draw):
        """Deeds that tell these values on their days, by other findings, and anything on other days and keys."""
        elsewhere = draw.choice((None, 5, -7))
        rows = [("other", 0, 399, 4)] if draw.random() < 0.5 else []
        for key in keys:
            told = {day: (values.get((key, day), elsewhere),) for day in DAYS}
            rows += [(key, first, last, value) for first, last, value in fewest(told) if value is not None]
        rows = [part for row in rows for part in self.perhaps_parted(row, draw)]
        draw.shuffle(rows)
        script = []
        for row in rows:
            # Ahead of some a finding that speaks for a while, and is withdrawn.
            if len(script) < 10:
                script += [(row[0], 0, 399, 99), len([deed for deed in script if isinstance(deed, tuple)])]
            script.append(row)
        return script

    def perhaps_parted(self, row, draw):
        key, first, last, value = row
        if first < last and draw.random() < 0.3:
            day = draw.randrange(first, last)
            return [(key, first, day, value), (key, day + 1, last, value)]
        return [row]


class Turns(Held):
    def test_left_out_none_and_told(self):
        for keys, script in SCRIPTS:
            book, log = done(keys, script)
            for text in texts_of(keys):
                now = log.answered(text, log.now())
                for told in ((), (None,), (log.now(),)):
                    self.assertEqual(answered(book, text, *told), now)
                    self.assertEqual(plainly(book, text, *told), now[0])

    def test_an_earlier_turn_is_never_answered_otherwise_later(self):
        keys, script = SCRIPTS[7]
        book, log = done(keys, script[:8])
        texts = texts_of(keys)
        told = [answered(book, text, turn) for text in texts for turn in range(9)]
        for deed in script[8:]:
            do(book, log, deed)
        self.assertEqual([answered(book, text, turn) for text in texts for turn in range(9)], told)


class Questions(Held):
    def test_a_text_and_a_question_that_was_read(self):
        for keys, script in SCRIPTS:
            book, log = done(keys, script)
            for text in texts_of(keys):
                question = question_of(text)
                for turn in (None, 0, log.now() // 2):
                    self.assertEqual(answered(book, question, turn), answered(book, text, turn))
                    self.assertEqual(plainly(book, question, turn), plainly(book, text, turn))
                self.assertEqual(answered(book, question), answered(book, text))
                self.assertEqual(question.text(), text)

    def test_one_question_asked_of_several_books(self):
        question = question_of("sum a 0 9")
        for value in (1, 2, 3):
            book, _ = done(("b", "a"), (("b", 0, 9, 9), ("a", 2, 4, value)))
            want = (3 * value, [("a", 0, 1, None), ("a", 2, 4, 1), ("a", 5, 9, None)])
            self.assertEqual(answered(book, question), want)


class Refusals(Held):
    def book(self):
        return done(("a", "b"), (("a", 0, 9, 1), ("b", 3, 5, 2), 0))[0]

    def test_bad_questions(self):
        book = self.book()
        for thing in THINGS:
            self.refused(book, errors.BadQuestion, "place", 0, thing)
        for text, place in (
            ("", 0), (" value a 1", 0), ("value a 1 ", 3), ("value a", 2), ("value a 400", 2), ("value A 1", 1),
            ("sum a,a 0 1", 1), ("plus ( value a 1 ) ( value b 2", 10), ("sum a 3 2", 3), ("value  a 1", 1),
        ):
            self.refused(book, errors.BadQuestion, "place", place, text)

    def test_keys_that_the_book_does_not_have(self):
        book = self.book()
        for text, key in (
            ("value c 1", "c"), ("value value 1", "value"), ("sum a,c,d 0 1", "c"), ("sum d,a,c 0 1", "d"),
            ("part a z 0 1", "z"), ("part y z 0 1", "y"), ("since aa 1 0 1", "aa"), ("change 1 ab 0 1", "ab"),
            ("plus ( value a 1 ) ( value c 2 )", "c"), ("minus ( value d 1 ) ( value c 2 )", "d"),
            # Keys of a question whose answer would not be given.
            ("less ( number 1 ) ( number 2 ) ( number 3 ) ( value c 1 )", "c"),
            ("less ( number 2 ) ( number 1 ) ( value c 1 ) ( number 3 )", "c"),
            ("same ( number 1 ) ( number 1 ) ( value b 1 ) ( plus ( value e 1 ) ( value d 1 ) )", "e"),
            ("same ( number 1 ) ( number 2 ) ( value d 1 ) ( value c 1 )", "d"),
            # Keys of days that would not be read.
            ("plus ( value a 399 ) ( since c 5 0 9 )", "c"),
        ):
            for question in (text, question_of(text)):
                self.refused(book, errors.NoKey, "key", key, question)

    def test_turns_that_are_none(self):
        book = self.book()
        for text in ("number 1", "value a 1", "sum a,b 0 399"):
            for turn in [*NO_TURNS, 4, 5]:
                self.refused(book, errors.NoTurn, "turn", turn, text, turn)
                self.refused(book, errors.NoTurn, "turn", turn, question_of(text), turn)

    def test_turns_of_a_book_without_deeds(self):
        book = Book(["a"])
        self.assertEqual(answered(book, "number 1", 0), (1, []))
        self.assertEqual(answered(book, "value a 1", 0), (None, [("a", 1, 1, None)]))
        for turn in (1, -1, True, False, "0"):
            self.refused(book, errors.NoTurn, "turn", turn, "value a 1", turn)

    def test_the_first_that_is_due(self):
        book = self.book()
        for turn in [*NO_TURNS, 4]:
            self.refused(book, errors.BadQuestion, "place", 3, "value c 1 x", turn)
            self.refused(book, errors.BadQuestion, "place", 9, "plus ( value c 1 ) ( value d", turn)
            self.refused(book, errors.BadQuestion, "place", 0, None, turn)
            self.refused(book, errors.NoKey, "key", "c", "value c 1", turn)
            self.refused(book, errors.NoKey, "key", "d", question_of("part d c 0 1"), turn)


class Lists(Held):
    def test_told_grounds_are_the_askers_own(self):
        book, log = done(*SCRIPTS[5])
        for text in texts_of(("b", "a")):
            want = log.answered(text, log.now())
            for spoil in (list.clear, lambda rows: rows.append(("a", 0, 0, 0)), list.reverse):
                spoil(answered(book, text)[1])
                self.assertEqual(answered(book, text), want)
        question = question_of("sum a,b 0 9")
        want = copy.deepcopy(answered(book, question))
        answered(book, question)[1].clear()
        question.asked_keys().clear()
        self.assertEqual(answered(book, question), want)

    def test_to_ask_changes_nothing(self):
        for keys, script in SCRIPTS:
            book, log = done(keys, script)
            ahead = state(book)
            for text in texts_of(keys):
                question = question_of(text)
                answered(book, question)
                plainly(book, question)
                answered(book, text, 0)
                told = (question.text(), question.depth(), question.asked_keys())
                self.assertEqual(told, (text, question_of(text).depth(), question_of(text).asked_keys()))
            self.assertEqual(state(book), ahead)

    def test_handed_in_things_stay(self):
        book = Book(["a"])
        thing, turn = ["value", ["a"]], [0]
        self.refused(book, errors.BadQuestion, "place", 0, thing, turn)
        self.refused(book, errors.NoTurn, "turn", turn, "value a 1", turn)
        self.assertEqual((thing, turn), (["value", ["a"]], [0]))


if __name__ == "__main__":
    unittest.main()
