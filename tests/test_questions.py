"""Points 40 to 43: the thirteen forms, their answers, what they read, their texts, keys and depths."""

import itertools
import random
import unittest

from reckoning import Meaning
from unsaybook.questions import Change, Choice, Gathering, Number, Part, Question, Reckoning, Since, Value

MOST = 10 ** 9
# A question that has nothing to tell wherever nothing is told of its key.
NOTHING = Value("none", 0)
SINGLES = (
    Number(7),
    Value("a", 3),
    Gathering("sum", ["a", "b"], 0, 3),
    Gathering("count", ["a", "b"], 0, 3),
    Gathering("least", ["a", "b"], 0, 3),
    Gathering("greatest", ["a", "b"], 0, 3),
    Since("a", -5, 0, 3),
    Part("a", "b", 0, 3),
    Change(2, "a", 0, 3),
    Reckoning("plus", Number(1), Value("b", 2)),
    Reckoning("minus", Number(1), Value("b", 2)),
    Choice("less", Number(1), Value("b", 2), Value("c", 1), Number(0)),
    Choice("same", Number(1), Value("b", 2), Value("c", 1), Number(0)),
)


def telling(values):
    """A telling of this dict, by key and day, and the list of what it was asked."""
    asked = []

    def told(key, day):
        asked.append((key, day))
        return values.get((key, day))

    return told, asked


def values_of(**rows):
    """The dict that tells of each key these values, from day 0 on."""
    return {(key, day): value for key, row in rows.items() for day, value in enumerate(row) if value is not None}


class Held(unittest.TestCase):
    def ask(self, question, values):
        """The answer, the same in both ways of asking, and the set of the days that were read."""
        meaning = Meaning(question.text(), values)
        told, asked = telling(values)
        answer = question.plain(told)
        self.assertLessEqual(set(asked), meaning.named, question.text())
        told, asked = telling(values)
        self.assertEqual(question.read(told), answer, question.text())
        self.assertEqual(set(asked), meaning.reads, question.text())
        self.assertEqual(answer, meaning.answer, question.text())
        self.assertIn(type(answer), (int, type(None)))
        return answer, set(asked)

    def check(self, question, values, answer, reads):
        """Held against what is written down in the test itself."""
        self.assertEqual(self.ask(question, values), (answer, set(reads)), question.text())


def days(key, first, last):
    return [(key, day) for day in range(first, last + 1)]


class Numbers(Held):
    def test_the_number_without_asking(self):
        for number in (0, 1, -1, MOST, -MOST):
            self.check(Number(number), values_of(a=[5]), number, [])


class Values(Held):
    def test_told_and_not_told(self):
        values = {("a", 0): 5, ("a", 1): 0, ("a", 399): -MOST, ("b", 2): MOST}
        for key, day, answer in (
            ("a", 0, 5), ("a", 1, 0), ("a", 2, None), ("a", 399, -MOST), ("b", 2, MOST), ("b", 0, None),
        ):
            self.check(Value(key, day), values, answer, [(key, day)])


class Gatherings(Held):
    WORDS = ("sum", "count", "least", "greatest")

    def gather(self, keys, first, last, values, wants):
        reads = [place for key in keys for place in days(key, first, last)]
        for word, want in zip(self.WORDS, wants):
            self.check(Gathering(word, keys, first, last), values, want, reads)

    def test_one_key(self):
        values = values_of(a=[5, None, -3, 0, 9])
        self.gather(["a"], 0, 4, values, (11, 4, -3, 9))
        self.gather(["a"], 0, 3, values, (2, 3, -3, 5))
        self.gather(["a"], 2, 3, values, (-3, 2, -3, 0))
        self.gather(["a"], 3, 3, values, (0, 1, 0, 0))

    def test_several_keys(self):
        values = values_of(a=[5, None, 1], b=[None, -7, 1], c=[100, 100, 100])
        self.gather(["a", "b"], 0, 2, values, (0, 4, -7, 5))
        self.gather(["b", "a"], 1, 2, values, (-5, 3, -7, 1))
        self.gather(["c", "b", "a"], 1, 1, values, (93, 2, -7, 100))

    def test_no_values(self):
        for keys in (["a"], ["a", "b"]):
            self.gather(keys, 0, 399, {}, (0, 0, None, None))
            self.gather(keys, 1, 1, values_of(a=[5], b=[6], c=[7, 7]), (0, 0, None, None))

    def test_the_outermost_days(self):
        values = {("a", 0): 1, ("a", 399): 2}
        self.gather(["a"], 0, 399, values, (3, 2, 1, 2))
        self.gather(["a"], 1, 398, values, (0, 0, None, None))
        self.gather(["a"], 399, 399, values, (2, 1, 2, 2))

    def test_great_sums(self):
        keys = list("abcdefgh")
        values = {(key, day): MOST for key in keys for day in range(400)}
        self.gather(keys, 0, 399, values, (3200 * MOST, 3200, MOST, MOST))

    def test_all_small_tellings(self):
        for a, b in itertools.product(itertools.product((None, 0, -2, 5), repeat=2), repeat=2):
            for word in self.WORDS:
                self.ask(Gathering(word, ["a", "b"], 0, 1), values_of(a=a, b=b))

    def test_the_handed_in_keys_stay_and_may_be_changed(self):
        keys = ["b", "a"]
        question = Gathering("sum", keys, 0, 1)
        self.assertEqual(keys, ["b", "a"])
        keys.append("c")
        keys[0] = "d"
        self.check(question, values_of(a=[1], b=[2], c=[4], d=[8]), 3, days("a", 0, 1) + days("b", 0, 1))
        self.assertEqual((question.text(), question.asked_keys()), ("sum b,a 0 1", ["b", "a"]))


class Sinces(Held):
    def test_it_fails_on_last(self):
        self.check(Since("a", 5, 0, 3), values_of(a=[9, 9, 9, 4]), None, [("a", 3)])
        self.check(Since("a", 5, 0, 3), values_of(a=[9, 9, 9, None]), None, [("a", 3)])
        self.check(Since("a", 0, 0, 3), values_of(a=[9, 9, 9, None]), None, [("a", 3)])

    def test_it_fails_between(self):
        self.check(Since("a", 5, 0, 4), values_of(a=[9, 4, 5, 9, 6]), 2, days("a", 1, 4))
        self.check(Since("a", 5, 0, 4), values_of(a=[9, 9, 9, None, 5]), 4, days("a", 3, 4))
        self.check(Since("a", 5, 0, 4), values_of(a=[4, 5, 5, 5, 5]), 1, days("a", 0, 4))

    def test_it_fails_nowhere(self):
        self.check(Since("a", 5, 0, 3), values_of(a=[5, 6, 5, 7]), 0, days("a", 0, 3))
        self.check(Since("a", 5, 2, 3), values_of(a=[5, 6, 5, 7]), 2, days("a", 2, 3))
        self.check(Since("a", -MOST, 398, 399), {("a", 398): -MOST, ("a", 399): MOST}, 398, days("a", 398, 399))

    def test_nothing_is_told(self):
        self.check(Since("a", -MOST, 0, 399), {}, None, [("a", 399)])

    def test_one_day(self):
        self.check(Since("a", 5, 0, 0), values_of(a=[5]), 0, [("a", 0)])
        self.check(Since("a", 5, 0, 0), values_of(a=[4]), None, [("a", 0)])

    def test_all_small_tellings(self):
        for row in itertools.product((None, -1, 0, 1), repeat=4):
            for bound, first in itertools.product((-1, 0, 1, 2), range(4)):
                self.ask(Since("a", bound, first, 3), values_of(a=row))
                self.ask(Since("a", bound, 0, first), values_of(a=row))


class Parts(Held):
    def test_two_keys(self):
        values = values_of(a=[1, 2, None, None, 0], b=[1, 3, 4, None, None])
        both = days("a", 0, 4) + days("b", 0, 4)
        self.check(Part("a", "b", 0, 4), values, 3, both)
        self.check(Part("b", "a", 0, 4), values, 3, both)
        self.check(Part("a", "b", 0, 0), values, 0, [("a", 0), ("b", 0)])
        self.check(Part("a", "b", 4, 4), values, 1, [("a", 4), ("b", 4)])

    def test_a_key_with_itself(self):
        self.check(Part("a", "a", 0, 2), values_of(a=[1, None, 3]), 0, days("a", 0, 2))
        self.assertEqual(Part("a", "a", 0, 2).asked_keys(), ["a"])

    def test_nothing_is_told(self):
        self.check(Part("a", "b", 0, 399), {}, 0, days("a", 0, 399) + days("b", 0, 399))
        self.check(Part("a", "b", 0, 399), {("a", day): 0 for day in range(400)}, 400,
                   days("a", 0, 399) + days("b", 0, 399))

    def test_all_small_tellings(self):
        for a, b in itertools.product(itertools.product((None, 0, 1), repeat=3), repeat=2):
            self.ask(Part("a", "b", 0, 2), values_of(a=a, b=b))
            self.ask(Part("a", "b", 1, 2), values_of(a=a, b=b))


class Changes(Held):
    def test_one_that_is_there(self):
        values = values_of(a=[1, 1, 2, 2, None, None, 0, 0])
        self.check(Change(1, "a", 0, 7), values, 2, days("a", 0, 2))
        self.check(Change(2, "a", 0, 7), values, 4, days("a", 0, 4))
        self.check(Change(3, "a", 0, 7), values, 6, days("a", 0, 6))
        self.check(Change(1, "a", 2, 7), values, 4, days("a", 2, 4))
        self.check(Change(1, "a", 1, 2), values, 2, days("a", 1, 2))

    def test_one_that_is_not_there(self):
        values = values_of(a=[1, 1, 2, 2, None, None, 0, 0])
        self.check(Change(4, "a", 0, 7), values, None, days("a", 0, 7))
        self.check(Change(400, "a", 0, 7), values, None, days("a", 0, 7))
        self.check(Change(1, "a", 4, 5), values, None, days("a", 4, 5))
        self.check(Change(1, "a", 2, 3), values, None, days("a", 2, 3))

    def test_the_first_day_is_held_against_none_ahead(self):
        self.check(Change(1, "a", 2, 2), values_of(a=[1, 1, 2]), None, [("a", 2)])
        self.check(Change(1, "a", 0, 0), values_of(a=[1]), None, [("a", 0)])
        self.check(Change(1, "a", 399, 399), {("a", 398): 1, ("a", 399): 2}, None, [("a", 399)])

    def test_nothing_is_told(self):
        self.check(Change(1, "a", 0, 399), {}, None, days("a", 0, 399))

    def test_many_changes(self):
        values = {("a", day): day % 2 for day in range(400)}
        self.check(Change(399, "a", 0, 399), values, 399, days("a", 0, 399))
        self.check(Change(400, "a", 0, 399), values, None, days("a", 0, 399))
        self.check(Change(200, "a", 0, 399), values, 200, days("a", 0, 200))

    def test_all_small_tellings(self):
        for row in itertools.product((None, 0, 1), repeat=5):
            for rank, first in itertools.product((1, 2, 3, 4, 5), range(3)):
                self.ask(Change(rank, "a", first, 4), values_of(a=row))


class Reckonings(Held):
    def test_both_tell(self):
        values = values_of(a=[5, -3], b=[7])
        self.check(Reckoning("plus", Value("a", 0), Value("b", 0)), values, 12, [("a", 0), ("b", 0)])
        self.check(Reckoning("minus", Value("a", 0), Value("b", 0)), values, -2, [("a", 0), ("b", 0)])
        self.check(Reckoning("minus", Value("a", 0), Value("a", 1)), values, 8, days("a", 0, 1))
        self.check(Reckoning("minus", Value("a", 0), Value("a", 0)), values, 0, [("a", 0)])

    def test_beyond_the_bounds_of_values(self):
        self.check(Reckoning("plus", Number(MOST), Number(MOST)), {}, 2 * MOST, [])
        self.check(Reckoning("minus", Number(-MOST), Number(MOST)), {}, -2 * MOST, [])

    def test_nothing_on_one_side_and_on_both(self):
        values = values_of(a=[0])
        for word in ("plus", "minus"):
            self.check(Reckoning(word, Value("a", 0), Value("a", 1)), values, None, days("a", 0, 1))
            self.check(Reckoning(word, Value("a", 1), Value("a", 0)), values, None, days("a", 0, 1))
            self.check(Reckoning(word, Value("a", 1), Value("a", 2)), values, None, days("a", 1, 2))

    def test_both_are_read_whatever_they_tell(self):
        for word, a, b in itertools.product(("plus", "minus"), (None, 0, 1), (None, 0, 1)):
            self.ask(Reckoning(word, Value("a", 0), Value("b", 0)), values_of(a=[a], b=[b]))


class Choices(Held):
    C, D = Value("c", 0), Value("d", 0)

    def choose(self, word, a, b, chosen):
        """On one side or the other: the answer, and just the days of the one that is given."""
        question = Choice(word, Value("a", 0), Value("b", 0), self.C, self.D)
        for c, d in ((10, 20), (None, 20), (10, None), (None, None), (0, 0)):
            given, key = (c, "c") if chosen else (d, "d")
            reads = [("a", 0), ("b", 0), (key, 0)]
            self.check(question, values_of(a=[a], b=[b], c=[c], d=[d]), given, reads)

    def test_less(self):
        for a, b, chosen in (
            (1, 2, True), (2, 1, False), (1, 1, False), (-1, 0, True), (0, -1, False), (0, 0, False),
            (-MOST, MOST, True), (MOST, -MOST, False),
        ):
            self.choose("less", a, b, chosen)

    def test_less_with_nothing(self):
        for a, b in ((None, 5), (5, None), (None, -5), (-5, None), (None, 0), (0, None), (None, None)):
            self.choose("less", a, b, False)

    def test_same(self):
        for a, b in itertools.product((-1, 0, 1, MOST), repeat=2):
            self.choose("same", a, b, a == b)

    def test_same_with_nothing(self):
        self.choose("same", None, None, True)
        for number in (-1, 0, 1):
            self.choose("same", None, number, False)
            self.choose("same", number, None, False)

    def test_questions_that_read_by_what_is_told(self):
        question = Choice("less", Since("a", 5, 0, 3), Change(1, "b", 0, 3), Change(1, "c", 0, 3), Since("d", 1, 0, 3))
        values = values_of(a=[9, 0, 9, 9], b=[1, 1, 1, 2], c=[0, 1, 0, 1], d=[1, 1, 1, 1])
        reads = days("a", 1, 3) + days("b", 0, 3) + days("c", 0, 1)
        self.check(question, values, 1, reads)
        values[("b", 1)] = 2
        self.check(question, values, 0, days("a", 1, 3) + days("b", 0, 1) + days("d", 0, 3))

    def test_within_one_another(self):
        inner = Choice("same", NOTHING, NOTHING, Value("c", 0), Value("d", 0))
        question = Choice("less", inner, Number(5), Value("e", 0), Value("f", 0))
        values = values_of(c=[4], d=[6], e=[1], f=[2])
        self.check(question, values, 1, [("none", 0), ("c", 0), ("e", 0)])
        values[("c", 0)] = 5
        self.check(question, values, 2, [("none", 0), ("c", 0), ("f", 0)])


class All(Held):
    def test_each_form_is_a_question(self):
        for question in SINGLES:
            self.assertIsInstance(question, Question)

    def test_with_all_small_tellings(self):
        rows = list(itertools.product((None, -5, 3), repeat=4))
        for a, b in itertools.product(rows[::2], rows[::5]):
            for question in SINGLES:
                self.ask(question, values_of(a=a, b=b, c=[None, 8]))

    def test_drawn_questions(self):
        draw = random.Random(5)
        for _ in range(3000):
            question = drawn_question(draw, draw.randrange(4))
            for _ in range(3):
                values = drawn_values(draw)
                _, reads = self.ask(question, values)
                self.hold_elsewhere(question, values, reads, draw)

    def hold_elsewhere(self, question, values, reads, draw):
        """Where all that is read is told alike, the same is read and answered, whatever is told elsewhere."""
        other = {place: value for place, value in drawn_values(draw).items() if place not in reads}
        other.update({place: value for place, value in values.items() if place in reads})
        self.assertEqual(self.ask(question, other), self.ask(question, values))

    def test_to_ask_changes_nothing(self):
        values = values_of(a=[1, 2, 2, 1], b=[1, None, 2], c=[5, 6])
        for question in SINGLES:
            told = (question.text(), question.asked_keys(), question.depth(), self.ask(question, values))
            self.ask(question, {})
            again = (question.text(), question.asked_keys(), question.depth(), self.ask(question, values))
            self.assertEqual(again, told)


def drawn_values(draw):
    places = itertools.product(("a", "b", "sum"), range(6))
    return {place: draw.choice((-1, 0, 1, 2)) for place in places if draw.random() < 0.7}


def drawn_question(draw, depth):
    if depth == 0:
        return drawn_single(draw)
    word = draw.choice(("plus", "minus", "less", "same"))
    inner = [drawn_question(draw, draw.randrange(depth)) for _ in range(4)]
    if word in ("plus", "minus"):
        return Reckoning(word, *inner[:2])
    return Choice(word, *inner)


def drawn_single(draw):
    first, last = sorted([draw.randrange(6), draw.randrange(6)])
    one, other, third = draw.sample(("a", "b", "sum"), 3)
    return draw.choice((
        Number(draw.randrange(-2, 3)),
        Value(one, first),
        Gathering(draw.choice(Gatherings.WORDS), [one, other, third][:draw.randrange(1, 4)], first, last),
        Since(one, draw.randrange(-1, 3), first, last),
        Part(one, draw.choice((one, other)), first, last),
        Change(draw.randrange(1, 5), one, first, last),
    ))


class Telling(unittest.TestCase):
    TEXTS = (
        "number 7", "value a 3", "sum a,b 0 3", "count a,b 0 3", "least a,b 0 3", "greatest a,b 0 3", "since a -5 0 3",
        "part a b 0 3", "change 2 a 0 3", "plus ( number 1 ) ( value b 2 )", "minus ( number 1 ) ( value b 2 )",
        "less ( number 1 ) ( value b 2 ) ( value c 1 ) ( number 0 )",
        "same ( number 1 ) ( value b 2 ) ( value c 1 ) ( number 0 )",
    )

    def test_texts(self):
        self.assertEqual([question.text() for question in SINGLES], list(self.TEXTS))

    def test_texts_of_the_outermost_numbers(self):
        self.assertEqual(Number(-MOST).text(), "number -1000000000")
        self.assertEqual(Since("a", MOST, 0, 399).text(), "since a 1000000000 0 399")
        self.assertEqual(Change(400, "a", 399, 399).text(), "change 400 a 399 399")

    def test_texts_within_brackets(self):
        inner = Reckoning("plus", Number(1), Gathering("sum", ["b", "a"], 0, 9))
        question = Reckoning("minus", inner, Choice("less", Number(0), inner, Value("c", 1), Part("a", "d", 2, 3)))
        plus = "plus ( number 1 ) ( sum b,a 0 9 )"
        less = f"less ( number 0 ) ( {plus} ) ( value c 1 ) ( part a d 2 3 )"
        self.assertEqual(question.text(), f"minus ( {plus} ) ( {less} )")
        self.assertEqual(question.asked_keys(), ["b", "a", "c", "d"])
        self.assertEqual(question.depth(), 3)

    def test_keys_of_each_form(self):
        told = [question.asked_keys() for question in SINGLES]
        ab, bc = ["a", "b"], ["b", "c"]
        self.assertEqual(told, [[], ["a"], ab, ab, ab, ab, ["a"], ab, ["a"], ["b"], ["b"], bc, bc])

    def test_keys_once_in_the_order_of_first_standing(self):
        self.assertEqual(Gathering("sum", ["c", "a", "b"], 0, 1).asked_keys(), ["c", "a", "b"])
        self.assertEqual(Part("b", "a", 0, 1).asked_keys(), ["b", "a"])
        question = Choice("same", Value("d", 0), Part("c", "d", 0, 1), Gathering("sum", ["b", "c"], 0, 1), Value("a", 0))
        self.assertEqual(question.asked_keys(), ["d", "c", "b", "a"])
        self.assertEqual(Reckoning("plus", Value("z", 0), Value("z", 1)).asked_keys(), ["z"])
        self.assertEqual(Reckoning("plus", Number(1), Number(2)).asked_keys(), [])

    def test_keys_called_like_other_words(self):
        question = Reckoning("plus", Gathering("sum", ["sum", "value"], 0, 1), Value("number", 3))
        self.assertEqual(question.text(), "plus ( sum sum,value 0 1 ) ( value number 3 )")
        self.assertEqual(question.asked_keys(), ["sum", "value", "number"])

    def test_the_told_list_is_the_askers_own(self):
        for question in SINGLES:
            want = question.asked_keys()
            question.asked_keys().clear()
            question.asked_keys().append("x")
            self.assertEqual(question.asked_keys(), want)
            self.assertIs(type(want), list)

    def test_inner_questions_stay(self):
        inner = Gathering("sum", ["b", "a"], 0, 1)
        outer = Reckoning("plus", inner, Value("c", 0))
        outer.asked_keys().clear()
        self.assertEqual((inner.text(), inner.asked_keys(), inner.depth()), ("sum b,a 0 1", ["b", "a"], 0))
        inner.asked_keys().clear()
        self.assertEqual(outer.asked_keys(), ["b", "a", "c"])

    def test_depths(self):
        self.assertEqual([question.depth() for question in SINGLES], [0] * 9 + [1] * 4)
        one = Reckoning("minus", Number(1), Number(2))
        two = Choice("less", Number(1), Number(2), Number(3), one)
        three = Reckoning("plus", two, Number(1))
        self.assertEqual([question.depth() for question in (one, two, three)], [1, 2, 3])
        for place in range(4):
            inner = [Number(0), Number(1), one, Number(3)]
            inner[2], inner[place] = inner[place], two
            self.assertEqual(Choice("same", *inner).depth(), 3)
        self.assertEqual(Reckoning("plus", Number(0), two).depth(), 3)
        self.assertEqual(Reckoning("plus", one, one).depth(), 2)

    def test_kinds(self):
        for question in SINGLES:
            self.assertIs(type(question.text()), str)
            self.assertIs(type(question.depth()), int)


if __name__ == "__main__":
    unittest.main()
