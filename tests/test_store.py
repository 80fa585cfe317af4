"""Points 71 to 75, and point 8."""

import copy
import random
import unittest

from reckoning import SCRIPTS, THINGS, done, drawn, drawn_text
from unsaybook import errors
from unsaybook.answers import answered
from unsaybook.findings import Book
from unsaybook.index import Index
from unsaybook.store import Store

BAD = (
    ("", 0), (" value a 1", 0), ("value a 1 ", 3), ("value  a 1", 1), ("value a", 2), ("value A 1", 1), ("sum a 2 1", 3),
)


class Held(unittest.TestCase):
    """A store, and beside it a log of the deeds and a dict of what should be kept."""

    def begin(self, keys, script=()):
        self.book, self.log = done(keys, script)
        self.store = Store(self.book)
        self.kept = {}
        self.check_kept()

    def ask(self, text):
        now = self.log.now()
        told = self.store.ask(text)
        self.assertEqual(told[:2], self.log.answered(text, now), text)
        self.assertEqual(told[:2], answered(self.book, text), text)
        self.assertIs(told[2], text in self.kept, text)
        self.assertEqual((type(told), type(told[1]), len(told)), (tuple, list, 3))
        self.kept.setdefault(text, told[1])
        self.assertEqual(told[1], self.kept[text])
        self.check_kept()
        return told

    def do(self, deed):
        """Do a deed, and hold what is let go and looked at against the grounds of what was kept."""
        ahead = Index()
        for place, grounds in enumerate(self.kept.values()):
            ahead.put(str(place), [row[:3] for row in grounds])
        if isinstance(deed, tuple):
            self.log.find(*deed)
            told = self.store.find(*deed)
            self.assertIs(type(told), tuple)
            self.assertEqual((told[0], len(told)), (len(self.log.findings) - 1, 2))
            gone = told[1]
        else:
            self.log.withdraw(deed)
            gone = self.store.withdraw(deed)
        changed = self.log.changed(self.log.now())
        days = {(key, day) for key, first, last in changed for day in range(first, last + 1)}
        touched = [text for text, grounds in self.kept.items() if days & days_of(grounds)]
        self.assertEqual(gone, sorted(touched))
        self.assertIs(type(gone), list)
        self.assertEqual(self.store.looks(), sum([ahead.meeting(*stretch)[1] for stretch in changed]))
        for text in touched:
            self.kept.pop(text)
        self.check_kept()
        return gone

    def check_kept(self):
        self.assertEqual(self.store.kept(), sorted(self.kept))

    def state(self):
        now = self.book.now()
        tables = [self.book.table(key) for key in self.book.all_keys()]
        deeds = [self.book.deed_at(turn) for turn in range(1, now + 1)]
        return copy.deepcopy((now, tables, deeds, self.store.kept(), self.store.looks()))

    def refused(self, refusal, field, thing, call):
        ahead = self.state()
        with self.assertRaises(errors.UnsayError, msg=repr(thing)) as caught:
            call()
        self.assertIs(type(caught.exception), refusal)
        if field is not None:
            self.assertEqual(getattr(caught.exception, field), thing)
            self.assertIs(type(getattr(caught.exception, field)), type(thing))
        self.assertEqual(self.state(), ahead)


def days_of(grounds):
    return {(key, day) for key, first, last, _ in grounds for day in range(first, last + 1)}


class Asking(Held):
    def test_not_kept_and_then_kept(self):
        self.begin(("a", "b"), (("a", 2, 5, 7),))
        for text in ("value a 3", "sum a,b 0 9", "number 7", "value b 3"):
            self.assertIs(self.ask(text)[2], False)
            self.assertIs(self.ask(text)[2], True)
            self.assertIs(self.ask(text)[2], True)
        self.assertEqual(self.store.kept(), ["number 7", "sum a,b 0 9", "value a 3", "value b 3"])

    def test_written_down(self):
        store = Store(Book(["a", "b"]))
        self.assertEqual((store.kept(), store.looks()), ([], 0))
        self.assertEqual(store.ask("value a 3"), (None, [("a", 3, 3, None)], False))
        self.assertEqual(store.ask("sum a 4 9"), (0, [("a", 4, 9, None)], False))
        self.assertEqual(store.find("a", 0, 3, 7), (0, ["value a 3"]))
        self.assertEqual(store.kept(), ["sum a 4 9"])
        self.assertEqual(store.ask("value a 3"), (7, [("a", 3, 3, 0)], False))
        self.assertEqual(store.ask("value a 3"), (7, [("a", 3, 3, 0)], True))
        self.assertEqual(store.find("b", 0, 399, 7), (1, []))
        self.assertEqual(store.find("a", 3, 4, 7), (2, ["sum a 4 9", "value a 3"]))
        self.assertEqual(store.ask("value a 3"), (7, [("a", 3, 3, 2)], False))
        self.assertEqual(store.withdraw(0), [])
        self.assertEqual(store.withdraw(2), ["value a 3"])
        self.assertEqual(store.ask("value a 3"), (None, [("a", 3, 3, None)], False))

    def test_two_texts_of_one_meaning_are_two(self):
        self.begin(("a",))
        self.ask("sum a 3 3")
        self.assertIs(self.ask("plus ( sum a 3 3 ) ( number 0 )")[2], False)

    def test_texts_rise_as_texts_compare(self):
        self.begin(("a", "b"))
        for text in ("value b 1", "value a 9", "value a 10", "sum b,a 0 1", "sum a,b 0 1", "number 0"):
            self.ask(text)
        want = ["sum a,b 0 1", "sum b,a 0 1", "value a 10", "value a 9", "value b 1"]
        self.assertEqual(self.store.kept(), ["number 0", *want])
        self.assertEqual(self.do(("a", 0, 399, 1)), want[:-1])
        for text in want:
            self.ask(text)
        self.assertEqual(self.do(("b", 1, 1, 1)), ["sum a,b 0 1", "sum b,a 0 1", "value b 1"])

    def test_a_text_longer_than_owners_of_an_index_may_be(self):
        self.begin(("a",))
        inner = "less" + " ( plus ( sum a 0 399 ) ( sum a 0 399 ) )" * 4
        text = "less" + f" ( {inner} )" * 4
        self.assertGreater(len(text), 400)
        told = self.store.ask(text)
        self.assertEqual(told[:2], self.log.answered(text, 0))


class Deeds(Held):
    def test_an_entering_lets_go_what_has_a_day_of_its_stretch(self):
        self.begin(("a", "b"), (("a", 2, 5, 7),))
        for text in ("value a 1", "value a 2", "value a 5", "value a 6", "value b 3", "sum a 0 1", "sum a 6 399", "sum a,b 3 3"):
            self.ask(text)
        self.assertEqual(self.do(("a", 2, 5, 7)), ["sum a,b 3 3", "value a 2", "value a 5"])
        self.assertEqual(self.do(("a", 2, 5, 8)), [])
        self.assertEqual(self.do(("a", 6, 6, 8)), ["sum a 6 399", "value a 6"])
        self.assertEqual(self.do(("a", 0, 399, 8)), ["sum a 0 1", "value a 1"])

    def test_where_nobody_spoke(self):
        self.begin(("a",))
        for text in ("value a 7", "since a 1 0 9", "change 1 a 0 5"):
            self.ask(text)
        # The since reads day 9 alone.
        self.assertEqual(self.do(("a", 8, 8, 1)), [])
        self.assertEqual(self.do(("a", 9, 9, 1)), ["since a 1 0 9"])
        self.assertEqual(self.do(("a", 7, 7, 1)), ["value a 7"])
        self.assertEqual(self.do(("a", 5, 6, 1)), ["change 1 a 0 5"])

    def test_where_the_value_is_the_same(self):
        self.begin(("a",), (("a", 0, 9, 7),))
        self.ask("value a 4")
        self.assertEqual(self.do(("a", 4, 4, 7)), ["value a 4"])
        self.assertEqual(self.ask("value a 4")[:2], (7, [("a", 4, 4, 1)]))
        self.assertEqual(self.do(1), ["value a 4"])
        self.assertEqual(self.ask("value a 4")[:2], (7, [("a", 4, 4, 0)]))

    def test_a_withdrawal_lets_go_where_the_finding_spoke(self):
        self.begin(("a",), (("a", 0, 9, 1), ("a", 4, 5, 2)))
        for day in range(11):
            self.ask(f"value a {day}")
        self.assertEqual(self.do(0), [f"value a {day}" for day in (0, 1, 2, 3, 6, 7, 8, 9)])
        self.assertEqual(self.do(1), ["value a 4", "value a 5"])

    def test_a_finding_that_speaks_nowhere(self):
        self.begin(("a",), (("a", 3, 5, 1), ("a", 0, 9, 2)))
        self.ask("sum a 0 9")
        self.assertEqual(self.do(0), [])
        self.assertEqual(self.store.looks(), 0)
        self.assertIs(self.ask("sum a 0 9")[2], True)

    def test_a_choice_is_let_go_by_what_it_read(self):
        self.begin(("a", "b", "c"), (("a", 0, 0, 1),))
        text = "less ( value a 0 ) ( number 5 ) ( value b 0 ) ( value c 0 )"
        self.ask(text)
        self.assertEqual(self.do(("c", 0, 9, 7)), [])
        self.assertIs(self.ask(text)[2], True)
        self.assertEqual(self.do(("b", 0, 0, 7)), [text])
        self.assertEqual(self.ask(text)[:2], (7, [("a", 0, 0, 0), ("b", 0, 0, 2)]))
        self.assertEqual(self.do(("a", 0, 0, 9)), [text])
        self.ask(text)
        self.assertEqual(self.do(2), [])
        self.assertEqual(self.do(1), [text])

    def test_texts_without_grounds_are_never_let_go(self):
        self.begin(("a", "b"))
        texts = ("number 7", "plus ( number 1 ) ( number 2 )")
        for text in texts:
            self.ask(text)
        for deed in (("a", 0, 399, 1), ("b", 0, 399, 1), 0, 1):
            self.assertEqual(self.do(deed), [])
        for text in texts:
            self.assertIs(self.ask(text)[2], True)

    def test_asked_once_and_never_again(self):
        self.begin(("a",))
        self.ask("value a 3")
        self.do(("a", 3, 3, 1))
        self.do(("a", 3, 3, 1))
        self.assertEqual(self.store.kept(), [])
        self.assertIs(self.ask("value a 3")[2], False)

    def test_every_script_with_texts_asked_between(self):
        for seed, (keys, script) in enumerate(SCRIPTS):
            draw = random.Random(seed)
            texts = [drawn_text(draw, keys, draw.choice((0, 0, 0, 1, 2))) for _ in range(14)]
            self.begin(keys)
            for deed in script:
                for text in draw.sample(texts, 8):
                    self.ask(text)
                self.do(deed)

    def test_a_book_with_deeds_ahead_of_its_store(self):
        for seed, (keys, script) in enumerate(SCRIPTS):
            draw = random.Random(seed + 100)
            texts = [drawn_text(draw, keys, draw.choice((0, 0, 1, 3))) for _ in range(8)]
            half = len(script) // 2
            self.begin(keys, script[:half])
            self.assertEqual(self.store.looks(), 0)
            for deed in script[half:]:
                for text in texts:
                    self.ask(text)
                self.do(deed)

    def test_many_texts_kept_at_once(self):
        self.begin(("a", "b"))
        for day in range(0, 400, 3):
            self.ask(f"value a {day}")
        for first in range(0, 390, 30):
            self.ask(f"sum a,b {first} {first + 9}")
        for deed in (("a", 255, 256, 1), ("b", 0, 399, 1), ("a", 0, 0, 1), ("a", 399, 399, 1), 1, ("a", 100, 300, 1), 4, 0):
            self.do(deed)


class Looks(Held):
    def test_none_at_first(self):
        self.begin(("a",), (("a", 0, 9, 1),))
        self.assertEqual(self.store.looks(), 0)
        self.ask("value a 1")
        self.assertEqual(self.store.looks(), 0)

    def test_written_down(self):
        store = Store(Book(["a", "b"]))
        store.ask("value a 0")
        store.find("a", 0, 399, 1)
        # 256, 128, 64, 32, 16, 8, 4, 2 and 1 are there.
        self.assertEqual(store.looks(), 9)
        store.ask("value a 0")
        self.assertEqual(store.looks(), 9)
        store.find("b", 0, 399, 1)
        self.assertEqual(store.looks(), 0)
        store.find("a", 255, 399, 1)
        self.assertEqual(store.looks(), 1)
        store.find("a", 100, 120, 1)
        # 256 and 128, and of the stretch's own side 64.
        self.assertEqual(store.looks(), 3)
        # Finding 0 speaks on 0 to 99 and on 121 to 254.
        self.assertEqual(store.withdraw(0), ["value a 0"])
        self.assertEqual(store.looks(), 9 + 3)

    def test_a_withdrawal_from_several_stretches_finds_the_index_as_it_was(self):
        self.begin(("a",), (("a", 0, 399, 1), ("a", 100, 109, 2), ("a", 300, 309, 3)))
        for text in ("sum a 0 99", "sum a 110 299", "sum a 310 399", "sum a 50 350", "sum a 100 109"):
            self.ask(text)
        self.assertEqual(self.do(0), ["sum a 0 99", "sum a 110 299", "sum a 310 399", "sum a 50 350"])
        self.assertGreater(self.store.looks(), 0)

    def test_what_is_refused_leaves_them(self):
        self.begin(("a",))
        self.ask("value a 0")
        self.do(("a", 0, 0, 1))
        looks = self.store.looks()
        self.assertEqual(looks, 9)
        self.refused(errors.NoKey, "key", "b", lambda: self.store.find("b", 0, 1, 1))
        self.refused(errors.NoFinding, "number", 7, lambda: self.store.withdraw(7))
        self.assertEqual(self.store.looks(), looks)


class Refusals(Held):
    def setUp(self):
        self.begin(("a", "b"), (("a", 0, 9, 1), ("b", 3, 5, 2), 0))
        for text in ("value a 3", "sum a,b 0 9", "number 1"):
            self.ask(text)

    def test_what_is_no_question(self):
        for thing in THINGS:
            self.refused(errors.BadQuestion, "place", 0, lambda: self.store.ask(thing))
        for text, place in BAD:
            self.refused(errors.BadQuestion, "place", place, lambda: self.store.ask(text))

    def test_keys_that_the_book_does_not_have(self):
        for text, key in (
            ("value c 1", "c"), ("sum a,d,c 0 1", "d"),
            ("less ( number 1 ) ( number 2 ) ( number 3 ) ( value e 1 )", "e"),
        ):
            self.refused(errors.NoKey, "key", key, lambda: self.store.ask(text))

    def test_findings_that_the_book_refuses(self):
        for thing in [thing for thing in THINGS if thing not in ("a", "b")]:
            self.refused(errors.NoKey, "key", thing, lambda: self.store.find(thing, None, None, None))
        for thing in [*THINGS, 400]:
            self.refused(errors.NoDay, "day", thing, lambda: self.store.find("a", thing, 1, 1))
            self.refused(errors.NoDay, "day", thing, lambda: self.store.find("a", 1, thing, None))
        self.refused(errors.NoDay, "day", 3, lambda: self.store.find("a", 4, 3, 1))
        for thing in [thing for thing in THINGS if thing != -1] + [10 ** 9 + 1]:
            self.refused(errors.NoValue, "thing", thing, lambda: self.store.find("a", 3, 4, thing))

    def test_withdrawals_that_the_book_refuses(self):
        for thing in [*THINGS, 2]:
            self.refused(errors.NoFinding, "number", thing, lambda: self.store.withdraw(thing))
        self.refused(errors.Gone, "number", 0, lambda: self.store.withdraw(0))

    def test_sixty_deeds(self):
        self.begin(("a",), [("a", place, place + 9, place) for place in range(59)])
        self.ask("sum a 0 399")
        self.ask("number 1")
        self.do(3)
        self.ask("sum a 0 399")
        self.refused(errors.Full, None, None, lambda: self.store.find("a", 0, 9, 1))
        self.refused(errors.Full, None, None, lambda: self.store.withdraw(0))
        self.refused(errors.Gone, "number", 3, lambda: self.store.withdraw(3))
        self.refused(errors.NoDay, "day", 400, lambda: self.store.find("a", 0, 400, 1))
        self.assertIs(self.ask("sum a 0 399")[2], True)


class Lists(Held):
    def test_told_lists_are_the_askers_own(self):
        self.begin(("a", "b"), (("a", 2, 5, 7),))
        for text in ("sum a,b 0 9", "value a 3", "number 1"):
            self.ask(text)
        for _ in range(2):
            self.store.ask("sum a,b 0 9")[1].clear()
            self.store.ask("sum a,b 0 9")[1].append(("a", 9, 9, 9))
            self.store.kept().append("x")
            self.store.kept().clear()
            self.ask("sum a,b 0 9")
        self.store.ask("value b 7")[1].clear()
        self.kept["value b 7"] = [("b", 7, 7, None)]
        self.ask("value b 7")
        self.do(("b", 7, 7, 1)).append("x")
        self.check_kept()
        self.do(1).clear()
        self.check_kept()

    def test_the_list_of_what_was_let_go(self):
        self.begin(("a",))
        self.ask("value a 1")
        told = self.store.find("a", 1, 1, 1)
        told[1].append("value a 2")
        self.assertEqual(self.store.kept(), [])
        self.assertEqual(self.store.ask("value a 2"), (None, [("a", 2, 2, None)], False))

    def test_two_stores_on_two_books(self):
        stores = [Store(Book(["a"])) for _ in range(2)]
        stores[0].ask("value a 1")
        self.assertEqual((stores[0].kept(), stores[1].kept()), (["value a 1"], []))
        self.assertEqual(stores[1].ask("value a 1"), (None, [("a", 1, 1, None)], False))
        self.assertEqual(stores[1].find("a", 1, 1, 5), (0, ["value a 1"]))
        self.assertEqual((stores[0].kept(), stores[0].looks()), (["value a 1"], 0))
        self.assertEqual(stores[0].ask("value a 1"), (None, [("a", 1, 1, None)], True))
        self.assertEqual(stores[1].ask("value a 1"), (5, [("a", 1, 1, 0)], False))

    def test_it_uses_the_book_itself(self):
        book = Book(["a"])
        store = Store(book)
        store.find("a", 0, 9, 5)
        self.assertEqual((book.now(), book.value("a", 3)), (1, 5))
        store.withdraw(0)
        self.assertEqual((book.now(), book.deed_at(2)), (2, ("withdraw", 0)))

    def test_to_ask_changes_nothing_in_the_book(self):
        self.begin(("a", "b"), drawn(("a", "b"), 9, 5))
        ahead = self.state()[:3]
        for text in ("sum a,b 0 399", "change 2 a 0 399", "since b 0 0 399"):
            self.ask(text)
            self.ask(text)
        self.assertEqual(self.state()[:3], ahead)


if __name__ == "__main__":
    unittest.main()
