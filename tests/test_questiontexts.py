"""Point 44, with 2, 6, 11, 40 and 41 as far as they speak of the texts of questions."""

import random
import re
import unittest

from reckoning import THINGS, Meaning, drawn_text
from unsaybook import errors
from unsaybook.questions import Question
from unsaybook.questiontexts import question_of

MOST = 10 ** 9
WORDS = (
    "number", "value", "sum", "count", "least", "greatest", "since", "part", "change", "plus", "minus", "less", "same",
)
# A text of each form, its keys and its depth.
FORMS = (
    ("number 7", [], 0),
    ("value a 3", ["a"], 0),
    ("sum a,b 0 3", ["a", "b"], 0),
    ("count b,a 1 3", ["b", "a"], 0),
    ("least a,b,c 0 3", ["a", "b", "c"], 0),
    ("greatest c 0 0", ["c"], 0),
    ("since a -5 0 3", ["a"], 0),
    ("part b a 0 3", ["b", "a"], 0),
    ("change 2 a 0 3", ["a"], 0),
    ("plus ( value b 1 ) ( value a 2 )", ["b", "a"], 1),
    ("minus ( number 1 ) ( value b 2 )", ["b"], 1),
    ("less ( value c 0 ) ( value b 2 ) ( value c 1 ) ( part d b 0 1 )", ["c", "b", "d"], 1),
    ("same ( number 1 ) ( number 1 ) ( value c 1 ) ( number 0 )", ["c"], 1),
)
DEEP = (
    ("plus ( plus ( number 1 ) ( value a 0 ) ) ( number 2 )", ["a"], 2),
    ("plus ( number 2 ) ( minus ( number 1 ) ( less ( number 1 ) ( value z 0 ) ( sum y,x 0 1 ) ( number 4 ) ) )",
     ["z", "y", "x"], 3),
    ("same ( same ( same ( number 1 ) ( number 2 ) ( number 3 ) ( value d 4 ) ) ( value c 1 ) ( number 2 ) ( number 3 )"
     " ) ( since b 1 0 1 ) ( number 2 ) ( plus ( plus ( number 1 ) ( value a 9 ) ) ( value b 9 ) )",
     ["d", "c", "b", "a"], 3),
)
SLOTS = {
    "number": ["N"], "value": ["KEY", "DAY"], "since": ["KEY", "N", "FIRST", "LAST"],
    "part": ["KEY", "KEY", "FIRST", "LAST"], "change": ["RANK", "KEY", "FIRST", "LAST"],
    "plus": ["(", "QUESTION", ")"] * 2, "minus": ["(", "QUESTION", ")"] * 2,
    "less": ["(", "QUESTION", ")"] * 4, "same": ["(", "QUESTION", ")"] * 4,
    "sum": ["KEYS", "FIRST", "LAST"], "count": ["KEYS", "FIRST", "LAST"],
    "least": ["KEYS", "FIRST", "LAST"], "greatest": ["KEYS", "FIRST", "LAST"],
}
BOUNDS = {"N": (-MOST, MOST), "DAY": (0, 399), "FIRST": (0, 399), "RANK": (1, 400)}


def gone_through(text):
    """By a row of what is awaited: the place that point 44 tells, None of a question; and the keys, as they stand."""
    words = text.split(" ")
    awaited, opened, first, keys = ["QUESTION"], 0, None, []
    for place, word in enumerate(words):
        if not awaited:
            return place, keys
        slot = awaited.pop(0)
        low, high = BOUNDS.get(slot, (first, 399))
        if slot == "QUESTION":
            good = word in SLOTS
        elif slot == "KEY":
            good = re.fullmatch("[a-z]{1,8}", word)
        elif slot == "KEYS":
            good = re.fullmatch("[a-z]{1,8}(,[a-z]{1,8}){0,7}", word) and len(set(word.split(","))) == word.count(",") + 1
        elif slot in ("(", ")"):
            good = word == slot and (slot == ")" or opened < 3)
        else:
            good = re.fullmatch("0|-?[1-9][0-9]{0,11}", word) and low <= int(word) <= high
        if not good:
            return place, keys
        if slot == "QUESTION":
            awaited = SLOTS[word] + awaited
        opened += (slot == "(") - (slot == ")")
        first = int(word) if slot == "FIRST" else first
        keys += word.split(",") if slot in ("KEY", "KEYS") else []
    return (len(words) if awaited else None), keys


def values_told():
    draw = random.Random(4)
    return {(key, day): draw.randrange(-9, 9) for key in "abcdxyz" for day in range(12) if draw.random() < 0.7}


class Held(unittest.TestCase):
    def bad(self, text, place):
        with self.assertRaises(errors.UnsayError, msg=repr(text)) as caught:
            question_of(text)
        self.assertIs(type(caught.exception), errors.BadQuestion, repr(text))
        self.assertIs(type(caught.exception.place), int)
        self.assertEqual(caught.exception.place, place, repr(text))

    def good(self, text):
        question = question_of(text)
        self.assertIsInstance(question, Question)
        self.assertEqual(question.text(), text)
        return question

    def check(self, text):
        """Held against the row of what is awaited."""
        place, keys = gone_through(text)
        if place is None:
            self.assertEqual(self.good(text).asked_keys(), list(dict.fromkeys(keys)), text)
        else:
            self.bad(text, place)


class Reading(Held):
    def test_each_form_and_brackets_within_one_another(self):
        for text, keys, depth in FORMS + DEEP:
            question = self.good(text)
            self.assertEqual(question.asked_keys(), keys, text)
            self.assertEqual(question.depth(), depth, text)

    def test_it_is_the_question_that_is_written_so(self):
        values = values_told()
        for text, _, _ in FORMS + DEEP:
            for ask in (question_of(text).plain, question_of(text).read):
                self.assertEqual(ask(lambda *place: values.get(place)), Meaning(text, values).answer, text)

    def test_each_word_of_a_kind_begins_its_own_form(self):
        values = {("a", 0): 3, ("a", 1): 5, ("b", 0): -1}
        for text, answer in (
            ("sum a,b 0 1", 7), ("count a,b 0 1", 3), ("least a,b 0 1", -1), ("greatest a,b 0 1", 5),
            ("plus ( value a 0 ) ( value a 1 )", 8), ("minus ( value a 0 ) ( value a 1 )", -2),
            ("less ( value b 0 ) ( value a 0 ) ( number 1 ) ( number 2 )", 1),
            ("less ( value a 0 ) ( value b 0 ) ( number 1 ) ( number 2 )", 2),
            ("same ( value b 1 ) ( value b 2 ) ( number 1 ) ( number 2 )", 1),
            ("same ( value b 0 ) ( value a 0 ) ( number 1 ) ( number 2 )", 2),
            ("since a 4 0 1", 1), ("change 1 a 0 1", 1), ("part a b 0 1", 2), ("number -3", -3), ("value b 0", -1),
        ):
            self.assertEqual(question_of(text).read(lambda *place: values.get(place)), answer, text)

    def test_read_a_second_time(self):
        for text, keys, depth in FORMS + DEEP:
            first = question_of(text)
            second = question_of(first.text())
            first.asked_keys().clear()
            for question in (first, second, question_of(text)):
                told = (question.text(), question.asked_keys(), question.depth())
                self.assertEqual(told, (text, keys, depth))

    def test_a_refused_text_leaves_nothing_behind(self):
        self.bad("plus ( plus ( plus ( number", 7)
        self.good("plus ( plus ( plus ( number 1 ) ( number 2 ) ) ( number 3 ) ) ( number 4 )")

    def test_keys_called_like_the_words_that_begin_a_form(self):
        for word in WORDS:
            self.assertEqual(self.good(f"value {word} 1").asked_keys(), [word])
            self.assertEqual(self.good(f"sum {word},a 1 2").asked_keys(), [word, "a"])
            self.assertEqual(self.good(f"part a {word} 1 2").asked_keys(), ["a", word])
            self.assertEqual(self.good(f"since {word} 0 1 2").asked_keys(), [word])
            self.assertEqual(self.good(f"change 1 {word} 1 2").asked_keys(), [word])
        text = "plus ( sum sum,plus 0 1 ) ( part number sum 0 1 )"
        self.assertEqual(self.good(text).asked_keys(), ["sum", "plus", "number"])

    def test_keys_of_one_and_of_eight_names(self):
        for word in ("sum", "count", "least", "greatest"):
            self.assertEqual(self.good(f"{word} abcdefgh 0 399").asked_keys(), ["abcdefgh"])
            self.assertEqual(self.good(f"{word} h,g,f,e,d,c,b,a 0 399").asked_keys(), list("hgfedcba"))

    def test_both_keys_of_a_part_may_be_one(self):
        self.assertEqual(self.good("part a a 0 1").asked_keys(), ["a"])

    def test_drawn_texts(self):
        draw = random.Random(6)
        values = values_told()
        for depth in range(4):
            for _ in range(150):
                text = drawn_text(draw, ("a", "b", "sum", "x"), depth)
                self.check(text)
                question = self.good(text)
                self.assertEqual(question.depth(), depth)
                self.assertEqual(question.read(lambda *place: values.get(place)), Meaning(text, values).answer)


class Numbers(Held):
    PLACES = (
        ("number {}", 1, -MOST, MOST), ("since a {} 0 1", 2, -MOST, MOST), ("value a {}", 2, 0, 399),
        ("sum a {} 399", 2, 0, 399), ("sum a 0 {}", 3, 0, 399), ("since a 1 {} 399", 3, 0, 399),
        ("since a 1 0 {}", 4, 0, 399), ("part a b {} 399", 3, 0, 399), ("part a b 0 {}", 4, 0, 399),
        ("change 1 a {} 399", 3, 0, 399), ("change 1 a 0 {}", 4, 0, 399), ("change {} a 0 1", 1, 1, 400),
        ("count a,b 7 {}", 3, 7, 399), ("least a 399 {}", 3, 399, 399), ("greatest a 1 {}", 3, 1, 399),
        ("since a 1 7 {}", 4, 7, 399), ("part a b 7 {}", 4, 7, 399), ("change 1 a 7 {}", 4, 7, 399),
        ("plus ( number {} ) ( number 1 )", 3, -MOST, MOST),
    )

    def test_at_each_bound_and_just_beyond_it(self):
        for form, place, low, high in self.PLACES:
            for number in (low, high, (low + high) // 2):
                self.good(form.format(number))
            for number in (low - 1, high + 1):
                self.bad(form.format(number), place)

    def test_not_written_plainly(self):
        for form, place, low, _ in self.PLACES:
            plain = max(low, 1)
            for word in (
                "07", f"0{plain}", f"00{plain}", "-0", "+1", f"+{plain}", "", "-", "--1", f"{plain}.0", f"{plain}e0",
                "00", "0x1", f"1_{plain}", "one", "a", f"{plain}\n", f"\t{plain}", "1" * 13, "-" + "1" * 13,
                "1" * 12, "9" * 40, "(", ")", ",", f"{plain},", "-01",
            ):
                self.bad(form.format(word), place)

    def test_last_less_than_first(self):
        self.bad("sum a 4 3", 3)
        self.bad("since a 1 4 3", 4)
        self.bad("part a b 399 0", 4)
        self.bad("change 1 a 1 0", 4)
        self.bad("plus ( count a,b 2 1 ) ( number 1 )", 5)

    def test_one_day(self):
        for text in ("sum a 399 399", "since a 1 0 0", "part a b 7 7", "change 1 a 399 399"):
            self.good(text)


class Names(Held):
    WRONG = (
        "abcdefghi", "A", "aB", "Sum", "a1", "1", "-", "", "a-b", "a_b", "(", ")", "a\n", "\ta", "~", "a.b", "\n",
    )
    FORMS = (
        ("value {} 1", 1), ("since {} 1 0 1", 1), ("part {} a 0 1", 1), ("part a {} 0 1", 2), ("change 1 {} 0 1", 2),
        ("less ( number 1 ) ( value {} 1 ) ( number 1 ) ( number 1 )", 7),
    )
    SEVERAL = ("sum {} 0 1", "count {} 0 1", "least {} 0 1", "greatest {} 0 1")

    def test_where_one_name_stands(self):
        for form, place in self.FORMS:
            for word in (*self.WRONG, "a,b", "a,", ",a", ","):
                self.bad(form.format(word), place)
            for word in ("a", "abcdefgh", "zzzzzzzz", "number"):
                self.good(form.format(word))

    def test_where_several_names_stand(self):
        for form in self.SEVERAL:
            for word in self.WRONG:
                self.bad(form.format(word), 1)
                self.bad(form.format("b," + word), 1)
                self.bad(form.format(word + ",b"), 1)
            for word in (
                "a,", ",a", ",", "a,,b", ",,", "a,b,", "a,a", "b,a,b", "a,b,c,d,e,f,g,h,i", "a,b,c,d,e,f,g,a",
                "a,b,c,d,e,f,g,h,a", "a;b",
            ):
                self.bad(form.format(word), 1)
            for word in ("a", "a,b", "abcdefgh,abcdefgi", "a,b,c,d,e,f,g,h", "a,aa,aaa"):
                self.good(form.format(word))


class Brackets(Held):
    def test_a_fourth_bracket_that_opens(self):
        three = "plus ( plus ( plus ( number 1 ) ( number 2 ) ) ( number 3 ) ) ( number 4 )"
        self.assertEqual(self.good(three).depth(), 3)
        for word in ("plus", "minus", "less", "same"):
            text = f"{word} ( {word} ( {word} ( {word} ( number 1 ) ( number 2 ) ) ( number 3 ) ) ( number 4 ) )"
            self.bad(text, 7)
        # The word ahead of it can stand, and so can brackets that open where others have closed.
        self.bad("plus ( plus ( plus ( plus", 7)
        self.bad("plus ( number 1 ) ( minus ( number 1 ) ( plus ( number 1 ) ( less ( number 1 ) ) ) )", 19)
        self.bad("same ( plus ( plus ( number 1 ) ( number 1 ) ) ( plus ( number 1 ) ( same ( number 1 ) ) ) )", 22)

    def test_brackets_that_lack_or_are_others(self):
        for text, place in (
            ("plus number 1", 1), ("plus ) number 1 (", 1), ("plus (number 1) (number 2)", 1), ("plus ( )", 2),
            ("plus ( ( number 1 ) ) ( number 2 )", 2), ("plus ( number 1 ( number 2 )", 4), ("( number 1 )", 0),
            ("plus ( number 1 ] ( number 2 )", 4), ("plus [ number 1 ) ( number 2 )", 1), (")", 0),
            ("plus ( number 1 ) , ( number 2 )", 5), ("plus ( number 1 ) ( number 2 ) ( number 3 )", 9),
            ("less ( number 1 ) ( number 2 ) ( number 3 )", 13), ("number ( 1 )", 1), ("plus ( number 1 ) number 2", 5),
            ("less ( number 1 ) ( number 2 ) ( number 3 ) ( number 4 ) ( number 5 )", 17), ("plus (( number 1", 1),
        ):
            self.bad(text, place)


class Words(Held):
    def test_what_is_no_text(self):
        for thing in [*THINGS, 1.5, ["number 1"], ("number 1",), ["number", "1"], {"number": 1}, 7, 0]:
            if not isinstance(thing, str):
                self.bad(thing, 0)

    def test_handed_in_things_stay(self):
        thing = ["number", ["1"]]
        self.bad(thing, 0)
        self.assertEqual(thing, ["number", ["1"]])

    def test_first_words(self):
        for word in ("", "a", "Number", "NUMBER", "numbers", "(", ")", "nothing", "7", "ask", "\n", "\t", "number\t7"):
            self.bad(word, 0)
            self.bad(word + " 7", 0)
            self.bad(f"plus ( {word} 7 ) ( number 1 )", 2)
        for word in WORDS:
            self.bad(word, 1)

    def test_words_behind_the_whole_question(self):
        for text, _, _ in FORMS + DEEP:
            count = len(text.split(" "))
            for behind in ("", "a", ")", "(", "7", "plus", "number 7", " ", "\n"):
                self.bad(f"{text} {behind}", count)

    def test_words_lacking_at_the_end(self):
        for text, _, _ in FORMS + DEEP:
            words = text.split(" ")
            for count in range(1, len(words)):
                self.bad(" ".join(words[:count]), count)

    def test_blanks_at_the_ends_and_beside_each_other(self):
        self.bad("", 0)
        self.bad(" ", 0)
        self.bad("  ", 0)
        for text, _, _ in FORMS + DEEP:
            words = text.split(" ")
            self.bad(" " + text, 0)
            self.bad(text + " ", len(words))
            self.bad("  " + text + "  ", 0)
            for count in range(1, len(words)):
                self.bad(" ".join(words[:count]) + "  " + " ".join(words[count:]), count)
                self.bad(" ".join(words[:count]) + " ", count)

    def test_line_ends_and_tabs(self):
        for text, _, _ in FORMS + DEEP:
            words = text.split(" ")
            for sign in ("\n", "\t", "\r", "\n\n"):
                self.bad(text + sign, len(words) - 1)
                self.bad(sign + text, 0)
                for count in range(1, len(words)):
                    head, tail = " ".join(words[:count]), " ".join(words[count:])
                    self.bad(head + sign + tail, count - 1)
                    self.bad(f"{head} {sign} {tail}", count)

    def test_the_first_of_several_faults_is_told(self):
        self.bad("sum A 400 -1", 1)
        self.bad("sum a 400 -1", 2)
        self.bad("sum a 9 8 7", 3)
        self.bad("plus ( value A 1 ) ( number 07 ) x", 3)
        self.bad("value a 1 x ", 3)

    def test_each_word_of_each_text_made_another(self):
        others = (
            *WORDS, "a", "b,a", "a,a", "(", ")", "", "0", "1", "3", "4", "399", "400", "401", "-1", "-0", "07",
            str(MOST), str(MOST + 1), str(-MOST), str(-MOST - 1), "abcdefghi", "A", "a,", "( number 1 )", "value a",
        )
        for text, _, _ in FORMS + DEEP:
            words = text.split(" ")
            for place in range(len(words)):
                self.check(" ".join(words[:place] + words[place + 1:]))
                self.check(" ".join(words[:place] + words[place:place + 1] * 2 + words[place + 1:]))
                for other in others:
                    self.check(" ".join(words[:place] + [other] + words[place + 1:]))
                    self.check(" ".join(words[:place] + [other] + words[place:]))

    def test_drawn_texts_made_other_ones(self):
        draw = random.Random(8)
        signs = ("a", " ", "(", ")", ",", "0", "9", "-", "A", "\n", "plus", " ( ", " ) ", "number 1")
        for _ in range(4000):
            text = drawn_text(draw, ("a", "b", "sum", "x"), draw.randrange(4))
            for _ in range(draw.randrange(1, 3)):
                place = draw.randrange(len(text) + 1)
                text = text[:place] + draw.choice(("", draw.choice(signs))) + text[place + draw.randrange(2):]
            self.check(text)


if __name__ == "__main__":
    unittest.main()
