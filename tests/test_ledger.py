"""Points 81 to 84, and point 9."""

import copy
import random
import unittest

from reckoning import SCRIPTS, THINGS, do, done, drawn, drawn_text
from unsaybook import errors
from unsaybook.answers import answered
from unsaybook.ledger import Ledger
from unsaybook.turns import unlike

NO_NAMES = [thing for thing in THINGS if thing not in ("a", "b", "find")] + ["abcdefghi", "Ann", "a b", "a,b", "a\n", 7]
NO_TURNS = [thing for thing in THINGS if thing is not None] + [61, "now"]


def state(ledger):
    """All that a ledger tells, but for what it is asked."""
    given = []
    while len(given) <= 40:
        try:
            given.append(ledger.given(len(given)))
        except errors.NoGiven:
            break
    turns = range(ledger.now() + 1)
    tables = [ledger.table("a", turn) for turn in turns]
    boxes = [ledger.unlike(turn, None) for turn in turns]
    return copy.deepcopy((given, ledger.unsaid(), ledger.now(), tables, boxes))


class Held(unittest.TestCase):
    """A ledger, and beside it a book and a log that are told the same deeds, and a list of what was given."""

    def begin(self, keys, script=()):
        self.ledger, (self.book, self.log), self.given = Ledger(list(keys)), done(keys, ()), []
        for deed in script:
            self.do(deed)

    def do(self, deed):
        do(self.book, self.log, deed)
        if isinstance(deed, tuple):
            self.assertEqual(self.ledger.find(*deed), len(self.log.findings) - 1)
        else:
            self.assertIsNone(self.ledger.withdraw(deed))
        self.check()

    def give(self, who, text):
        now = self.log.now()
        self.given.append((who, text, now, self.log.answered(text, now)[0]))
        number = self.ledger.give(who, text)
        self.assertEqual(number, len(self.given) - 1)
        self.assertIs(type(number), int)
        self.check()
        return number

    def check(self):
        """What is given and what is unsaid, held against asking at every turn."""
        told = self.ledger.unsaid()
        self.assertEqual(told, self.log.unsaid(self.given))
        self.assertTrue(all([type(row) is tuple and type(row[2]) is tuple for row in told]))
        for number, entry in enumerate(self.given):
            self.assertEqual(self.ledger.given(number), entry)
            self.assertIs(type(self.ledger.given(number)), tuple)
        self.assertEqual(self.ledger.now(), self.log.now())

    def refused(self, refusal, field, thing, call):
        ahead = state(self.ledger)
        with self.assertRaises(errors.UnsayError, msg=repr(thing)) as caught:
            call()
        self.assertIs(type(caught.exception), refusal, repr(thing))
        if field is not None:
            self.assertEqual(getattr(caught.exception, field), thing)
            self.assertIs(type(getattr(caught.exception, field)), type(thing))
        self.assertEqual(state(self.ledger), ahead)


class Books(Held):
    def test_it_tells_what_a_book_tells(self):
        for seed, (keys, script) in enumerate(SCRIPTS):
            self.begin(keys, script)
            draw = random.Random(seed)
            turns = range(self.log.now() + 1)
            for key in keys:
                self.assertEqual(self.ledger.table(key), self.book.table(key))
                self.assertEqual(self.ledger.table(key, None), self.log.table(key, self.log.now()))
                for turn in turns:
                    self.assertEqual(self.ledger.table(key, turn), self.log.table(key, turn))
            for one in (None, *turns[::3]):
                for other in (None, *turns[::5]):
                    self.assertEqual(self.ledger.unlike(one, other), unlike(self.book, one, other))
            for turn in (None, *turns):
                for _ in range(4):
                    text = drawn_text(draw, keys, draw.randrange(3))
                    self.assertEqual(self.ledger.ask(text, turn), answered(self.book, text, turn), text)
                    want = self.log.answered(text, self.log.now() if turn is None else turn)
                    self.assertEqual(self.ledger.ask(text, turn), want, text)

    def test_asked_behind_every_deed(self):
        for seed, (keys, script) in enumerate(SCRIPTS):
            draw = random.Random(seed + 50)
            texts = [drawn_text(draw, keys, draw.choice((0, 0, 1, 2))) for _ in range(6)]
            self.begin(keys)
            for deed in script:
                self.do(deed)
                for text in texts:
                    now = self.log.answered(text, self.log.now())
                    for told in ((), (None,), (self.log.now(),)):
                        self.assertEqual(self.ledger.ask(text, *told), now, text)
                turn = draw.randrange(self.log.now() + 1)
                self.assertEqual(self.ledger.ask(texts[0], turn), self.log.answered(texts[0], turn))

    def test_what_is_asked_is_a_tuple_of_two(self):
        self.begin(("a",), (("a", 0, 9, 5),))
        for turn in (None, 0, 1):
            told = self.ledger.ask("value a 3", turn)
            self.assertEqual((type(told), len(told), type(told[1])), (tuple, 2, list))

    def test_to_ask_and_to_give_change_nothing_else(self):
        self.begin(("a", "b"), drawn(("a", "b"), 12, 7))
        ahead = state(self.ledger)[2:]
        for text in ("sum a,b 0 399", "number 1", "value a 5"):
            self.ledger.ask(text)
            self.ledger.ask(text, 3)
            self.ledger.give("ann", text)
        self.assertEqual(state(self.ledger)[2:], ahead)

    def test_keys_that_are_none(self):
        for thing in [thing for thing in THINGS if thing != ["a"]] + [
            ("a", "b"), "abc", ["a", "a"], list("abcdefghi"), ["A"], [["a"]], [None], {"a": 1}, ["a", ""],
        ]:
            with self.assertRaises(errors.UnsayError) as caught:
                Ledger(thing)
            self.assertIs(type(caught.exception), errors.NoKeys, thing)

    def test_the_handed_in_keys_may_be_changed_afterwards(self):
        keys = ["a", "b"]
        ledger = Ledger(keys)
        keys.append("c")
        keys[0] = "d"
        self.assertEqual(ledger.table("a"), [])
        with self.assertRaises(errors.NoKey):
            ledger.table("c")


class Refusals(Held):
    def setUp(self):
        self.begin(("a", "b"), (("a", 0, 9, 1), ("b", 3, 5, 2), 0))
        self.give("ann", "value a 3")
        self.give("bob", "value b 3")
        self.do(("a", 3, 3, 4))

    def test_findings(self):
        for thing in [thing for thing in THINGS if thing not in ("a", "b")]:
            self.refused(errors.NoKey, "key", thing, lambda: self.ledger.find(thing, None, None, None))
        for thing in [*THINGS, 400]:
            self.refused(errors.NoDay, "day", thing, lambda: self.ledger.find("a", thing, None, None))
            self.refused(errors.NoDay, "day", thing, lambda: self.ledger.find("a", 1, thing, None))
        self.refused(errors.NoDay, "day", 3, lambda: self.ledger.find("a", 4, 3, None))
        for thing in [thing for thing in THINGS if thing != -1] + [10 ** 9 + 1, -(10 ** 9) - 1]:
            self.refused(errors.NoValue, "thing", thing, lambda: self.ledger.find("a", 3, 4, thing))

    def test_withdrawals(self):
        for thing in [*THINGS, 3]:
            self.refused(errors.NoFinding, "number", thing, lambda: self.ledger.withdraw(thing))
        self.refused(errors.Gone, "number", 0, lambda: self.ledger.withdraw(0))

    def test_sixty_deeds(self):
        for place in range(56):
            self.do(("a", place, place + 9, place))
        self.refused(errors.Full, None, None, lambda: self.ledger.find("a", 0, 9, 1))
        self.refused(errors.Full, None, None, lambda: self.ledger.withdraw(1))
        self.refused(errors.Gone, "number", 0, lambda: self.ledger.withdraw(0))
        self.refused(errors.NoValue, "thing", None, lambda: self.ledger.find("a", 0, 9, None))
        self.give("ann", "value a 3")

    def test_questions(self):
        for thing in THINGS:
            for told in ((), (None,), (1,), ("x",), (99,)):
                self.refused(errors.BadQuestion, "place", 0, lambda: self.ledger.ask(thing, *told))
        for text, place in (("", 0), ("value a 1 ", 3), ("value  a 1", 1), ("sum c 2 1", 3), ("value c", 2)):
            for told in ((), (None,), (1,), ("x",), (99,)):
                self.refused(errors.BadQuestion, "place", place, lambda: self.ledger.ask(text, *told))
        for told in ((), (None,), (1,), ("x",), (99,)):
            self.refused(errors.NoKey, "key", "d", lambda: self.ledger.ask("part d c 0 1", *told))
        for turn in [*NO_TURNS, 5]:
            self.refused(errors.NoTurn, "turn", turn, lambda: self.ledger.ask("value a 1", turn))
            self.refused(errors.NoTurn, "turn", turn, lambda: self.ledger.ask("number 1", turn))

    def test_given_answers(self):
        for who in NO_NAMES:
            for text in ("value a 3", "value c 3", "", None, ["value a 3"]):
                self.refused(errors.NoName, "name", who, lambda: self.ledger.give(who, text))
        for thing in THINGS:
            self.refused(errors.BadQuestion, "place", 0, lambda: self.ledger.give("ann", thing))
        self.refused(errors.BadQuestion, "place", 3, lambda: self.ledger.give("ann", "value c 1 "))
        self.refused(errors.NoKey, "key", "c", lambda: self.ledger.give("ann", "value c 1"))
        self.assertEqual(self.give("ann", "value a 1"), 2)

    def test_the_forty_first(self):
        for place in range(38):
            self.give("ann", f"value a {place % 5}")
        self.refused(errors.Full, None, None, lambda: self.ledger.give("ann", "value a 3"))
        self.refused(errors.Full, None, None, lambda: self.ledger.give("bob", "value b 399"))
        self.refused(errors.NoName, "name", "", lambda: self.ledger.give("", "value a 3"))
        self.refused(errors.BadQuestion, "place", 2, lambda: self.ledger.give("ann", "value a"))
        self.refused(errors.NoKey, "key", "c", lambda: self.ledger.give("ann", "value c 1"))
        # Deeds may still be done, and questions asked.
        self.do(("a", 0, 2, 7))
        self.assertEqual(self.ledger.ask("value a 0")[0], 7)
        self.assertEqual(self.ledger.given(39)[0], "ann")

    def test_numbers_of_no_given_answer(self):
        for thing in [*THINGS, 2, 3, 40, "0", [0], (0,), 0.5]:
            self.refused(errors.NoGiven, "number", thing, lambda: self.ledger.given(thing))
        self.begin(("a",))
        for thing in (0, 1, -1, False, None):
            self.refused(errors.NoGiven, "number", thing, lambda: self.ledger.given(thing))

    def test_tables_and_turns(self):
        for thing in [thing for thing in THINGS if thing not in ("a", "b")] + ["c"]:
            self.refused(errors.NoKey, "key", thing, lambda: self.ledger.table(thing))
            self.refused(errors.NoKey, "key", thing, lambda: self.ledger.table(thing, 99))
        for turn in [*NO_TURNS, 5]:
            self.refused(errors.NoTurn, "turn", turn, lambda: self.ledger.table("a", turn))
            self.refused(errors.NoTurn, "turn", turn, lambda: self.ledger.unlike(turn, 99))
            self.refused(errors.NoTurn, "turn", turn, lambda: self.ledger.unlike(1, turn))


class Given(Held):
    def test_what_was_entered_stays(self):
        self.begin(("a",), (("a", 0, 9, 5),))
        self.assertEqual(self.give("ann", "value a 3"), 0)
        self.assertEqual(self.give("bob", "value a 30"), 1)
        self.assertEqual(self.give("a", "number 7"), 2)
        want = [("ann", "value a 3", 1, 5), ("bob", "value a 30", 1, None), ("a", "number 7", 1, 7)]
        for deed in (("a", 0, 399, 6), 1, 0, ("a", 3, 3, 5)):
            self.do(deed)
            self.assertEqual([self.ledger.given(number) for number in range(3)], want)

    def test_the_same_again(self):
        self.begin(("a",))
        for number in range(3):
            self.assertEqual(self.give("ann", "value a 3"), number)
        self.do(("a", 3, 3, 1))
        self.assertEqual([row[0] for row in self.ledger.unsaid()], [0, 1, 2])
        self.assertEqual(self.give("ann", "value a 3"), 3)
        self.assertEqual([row[0] for row in self.ledger.unsaid()], [0, 1, 2])

    def test_to_give_is_no_deed(self):
        self.begin(("a",), (("a", 0, 9, 5),))
        self.give("ann", "value a 3")
        self.assertEqual(self.ledger.now(), 1)

    def test_forty_answers(self):
        self.begin(("a",))
        for place in range(40):
            self.assertEqual(self.give("ann", f"value a {place}"), place)
        self.do(("a", 10, 19, 1))
        self.assertEqual([row[0] for row in self.ledger.unsaid()], list(range(10, 20)))


class Unsaid(Held):
    def test_unsaid_said_again_and_unsaid_once_more(self):
        self.begin(("a",), (("a", 0, 9, 5),))
        self.assertEqual(self.ledger.unsaid(), [])
        self.give("ann", "value a 3")
        self.assertEqual(self.ledger.unsaid(), [])
        self.do(("a", 3, 3, 6))
        self.assertEqual(self.ledger.unsaid(), [(0, 2, ("find", 1))])
        self.do(("a", 3, 3, 7))
        self.assertEqual(self.ledger.unsaid(), [(0, 2, ("find", 1))])
        self.do(1)
        self.assertEqual(self.ledger.unsaid(), [(0, 2, ("find", 1))])
        self.do(2)
        self.assertEqual(self.ledger.unsaid(), [])
        self.do(0)
        self.assertEqual(self.ledger.unsaid(), [(0, 6, ("withdraw", 0))])
        self.do(("a", 0, 399, 5))
        self.assertEqual(self.ledger.unsaid(), [])
        self.do(("a", 4, 9, 8))
        self.assertEqual(self.ledger.unsaid(), [])
        self.do(("a", 3, 3, 4))
        self.assertEqual(self.ledger.unsaid(), [(0, 9, ("find", 5))])

    def test_nothing_on_either_side(self):
        self.begin(("a",))
        self.give("ann", "value a 3")
        self.give("ann", "sum a 3 3")
        self.do(("a", 3, 3, 0))
        # Nothing is another answer than 0, but the sum of nothing is 0.
        self.assertEqual(self.ledger.unsaid(), [(0, 1, ("find", 0))])
        self.give("bob", "value a 3")
        self.do(0)
        self.assertEqual(self.ledger.unsaid(), [(2, 2, ("withdraw", 0))])

    def test_another_finding_with_the_same_answer(self):
        self.begin(("a",), (("a", 0, 9, 5),))
        self.give("ann", "value a 3")
        self.do(("a", 0, 9, 5))
        self.assertEqual(self.ledger.unsaid(), [])
        self.do(0)
        self.assertEqual(self.ledger.unsaid(), [])
        self.do(1)
        self.assertEqual(self.ledger.unsaid(), [(0, 4, ("withdraw", 1))])

    def test_given_behind_some_deeds(self):
        self.begin(("a",), (("a", 3, 3, 1), ("a", 3, 3, 2)))
        self.give("ann", "value a 3")
        self.do(("a", 3, 3, 1))
        self.give("ann", "value a 3")
        self.assertEqual(self.ledger.unsaid(), [(0, 3, ("find", 2))])
        # What was known ahead of its own turn is nothing to it.
        self.do(2)
        self.assertEqual(self.ledger.unsaid(), [(1, 4, ("withdraw", 2))])

    def test_answers_that_no_deed_can_change(self):
        self.begin(("a",))
        self.give("ann", "number 7")
        for deed in (("a", 0, 399, 1), 0):
            self.do(deed)
            self.assertEqual(self.ledger.unsaid(), [])

    def test_every_script_with_answers_given_between(self):
        for seed, (keys, script) in enumerate(SCRIPTS):
            draw = random.Random(seed + 200)
            self.begin(keys)
            for deed in script:
                if len(self.given) < 40 and draw.random() < 0.8:
                    self.give(draw.choice(("ann", "bob")), drawn_text(draw, keys, draw.choice((0, 0, 1, 2))))
                if draw.random() < 0.5:
                    self.ledger.ask(drawn_text(draw, keys, 1))
                self.do(deed)

    def test_all_given_ahead_of_all_deeds(self):
        for seed in range(3):
            draw = random.Random(seed + 300)
            self.begin(("a", "b"))
            for _ in range(40):
                self.give("ann", drawn_text(draw, ("a", "b"), draw.choice((0, 0, 1))))
            for deed in drawn(("a", "b"), 30, seed):
                self.do(deed)

    def test_questions_that_are_let_go_by_a_deed_of_the_last_turn(self):
        self.begin(("a",))
        text = "less ( value a 0 ) ( number 5 ) ( value a 1 ) ( value a 2 )"
        self.give("ann", text)
        for deed in (("a", 2, 2, 9), ("a", 0, 0, 1), ("a", 1, 1, 3), ("a", 2, 2, 8), 1, 0, 3, 2):
            self.do(deed)


class Lists(Held):
    def test_told_lists_are_the_askers_own(self):
        self.begin(("a",), (("a", 0, 9, 5),))
        self.give("ann", "value a 3")
        self.give("ann", "value a 4")
        self.do(("a", 3, 4, 6))
        ahead = state(self.ledger)
        for told in (
            self.ledger.unsaid(), self.ledger.table("a"), self.ledger.unlike(0, 1), self.ledger.ask("sum a 0 9")[1],
            self.ledger.ask("sum a 0 9", 1)[1],
        ):
            told.append(("a", 0, 0))
            told.reverse()
            told.clear()
            self.assertEqual(state(self.ledger), ahead)
        for turn in (None, 1, 2):
            self.ledger.ask("sum a 0 9", turn)[1].clear()
            want = self.log.answered("sum a 0 9", 2 if turn is None else turn)
            self.assertEqual(self.ledger.ask("sum a 0 9", turn), want)

    def test_two_ledgers_have_nothing_in_common(self):
        self.begin(("a",), (("a", 0, 9, 5),))
        other = Ledger(["a"])
        self.give("ann", "value a 3")
        self.assertEqual((other.now(), other.unsaid(), other.table("a")), (0, [], []))
        with self.assertRaises(errors.NoGiven):
            other.given(0)
        other.find("a", 3, 3, 1)
        other.give("bob", "value a 3")
        self.check()
        self.assertEqual(self.ledger.ask("value a 3")[0], 5)

    def test_handed_in_things_stay(self):
        self.begin(("a",))
        thing = [["value a 3"], {}]
        for call in (self.ledger.ask, lambda told: self.ledger.give("ann", told), self.ledger.given, self.ledger.table):
            with self.assertRaises(errors.UnsayError):
                call(thing)
        self.assertEqual(thing, [["value a 3"], {}])

    def test_equal_questions_have_equal_answers(self):
        self.begin(("a", "b"), drawn(("a", "b"), 10, 9))
        self.give("ann", "sum a,b 0 399")
        self.assertEqual(state(self.ledger), state(self.ledger))
        self.assertEqual(self.ledger.ask("sum a 0 9"), self.ledger.ask("sum a 0 9"))


if __name__ == "__main__":
    unittest.main()
