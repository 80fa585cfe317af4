"""Points 92 to 94."""

import random
import unittest

from reckoning import SCRIPTS, THINGS, Log, drawn_text
from unsaybook import errors
from unsaybook.desk import Desk

# Every line but that with keys, as it may be said behind `begun`.
LINES = (
    "find a 0 9 5", "withdraw 1", "give ann value a 3", "look ann", "ask value a 3", "at 0 value a 3", "at 2 value a 3",
    "grounds sum a,b 0 9", "unsaid", "turn", "table a", "table a 0", "unlike 0 2",
)
BAD_QUESTIONS = (
    ("", 0), (" ", 0), (" value a 1", 0), ("value  a 1", 1), ("value a 1 ", 3), ("value a 1  ", 3), ("value a", 2),
    ("value A 1", 1), ("value a 07", 2), ("sum a 2 1", 3), ("Value a 1", 0), ("value a 1 x", 3), ("ask value a 1", 0),
    ("plus ( value a 1 )", 6), ("value a 1\n", 2), ("value\ta 1", 0),
)


def begun():
    """A desk with two keys, four deeds and two given answers, one of them unsaid; nobody has looked."""
    desk = Desk()
    for line in (
        "keys a b", "find a 0 9 5", "give ann value a 3", "give bob value b 3", "find a 2 3 -7", "find b 7 7 0",
        "withdraw 2",
    ):
        desk.say(line)
    return desk


def told(desk):
    """All that a desk tells by lines that ask."""
    lines = [f"unlike {one} {other}" for one in range(3) for other in range(3)]
    lines += [f"at {turn} sum a,b 0 399" for turn in range(3)] + ["table a 1", "table b 1"]
    answers = []
    for line in (*lines, "turn", "unsaid", "table a", "table b", "ask sum a,b 0 9", "grounds sum a,b 0 9"):
        try:
            answers.append(desk.say(line))
        except errors.UnsayError as refusal:
            answers.append(type(refusal))
    return answers


class Held(unittest.TestCase):
    def hears(self, desk, line, answer):
        said = desk.say(line)
        self.assertEqual(said, answer, line)
        self.assertIs(type(said), str)

    def refused(self, desk, refusal, field, thing, line):
        ahead = told(desk)
        with self.assertRaises(errors.UnsayError, msg=repr(line)) as caught:
            desk.say(line)
        self.assertIs(type(caught.exception), refusal, repr(line))
        if field is not None:
            self.assertEqual(getattr(caught.exception, field), thing, line)
            self.assertIs(type(getattr(caught.exception, field)), type(thing))
        self.assertEqual(told(desk), ahead)

    def no_line(self, desk, line):
        self.refused(desk, errors.NoLine, None, None, line)


class Lines(Held):
    def test_written_down(self):
        desk = Desk()
        for line, answer in (
            ("keys rain wind", "ok"),
            ("turn", "0"),
            ("unsaid", "-"),
            ("table rain", "-"),
            ("table rain 0", "-"),
            ("unlike 0 0", "-"),
            ("look ann", "-"),
            ("ask number -7", "-7"),
            ("grounds number -7", "-"),
            ("ask value rain 3", "nothing"),
            ("grounds value rain 3", "rain 3 3 -"),
            ("give ann value rain 3", "answer 0: nothing"),
            ("find rain 0 9 5", "finding 0"),
            ("turn", "1"),
            ("ask value rain 3", "5"),
            ("at 0 value rain 3", "nothing"),
            ("at 1 value rain 3", "5"),
            ("unsaid", "0 since 1 by find 0"),
            ("give bob sum rain,wind 0 9", "answer 1: 50"),
            ("find rain 4 6 -7", "finding 1"),
            ("unsaid", "0 since 1 by find 0; 1 since 2 by find 1"),
            ("look ann", "0 unsaid"),
            ("look ann", "-"),
            ("table rain", "0 3 0; 4 6 1; 7 9 0"),
            ("table rain 1", "0 9 0"),
            ("table wind", "-"),
            ("unlike 1 2", "rain 4 6 0 1"),
            ("unlike 2 1", "rain 4 6 1 0"),
            ("unlike 0 2", "rain 0 3 - 0; rain 4 6 - 1; rain 7 9 - 0"),
            ("grounds sum wind,rain 3 4", "rain 3 3 0; rain 4 4 1; wind 3 4 -"),
            ("find wind 399 399 1000000000", "finding 2"),
            ("ask value wind 399", "1000000000"),
            ("withdraw 0", "withdrawn"),
            ("unsaid", "1 since 2 by find 1"),
            ("look ann", "0 said again"),
            ("look bob", "1 unsaid"),
            ("withdraw 1", "withdrawn"),
            ("unsaid", "1 since 2 by find 1"),
            ("give bob value wind 399", "answer 2: 1000000000"),
            ("withdraw 2", "withdrawn"),
            ("unsaid", "1 since 2 by find 1; 2 since 6 by withdraw 2"),
            ("look bob", "2 unsaid"),
            ("turn", "6"),
            ("unlike 5 6", "wind 399 399 2 -"),
            ("unlike 0 6", "-"),
            ("at 4 count rain,wind 0 399", "4"),
            ("look cleo", "-"),
        ):
            self.hears(desk, line, answer)

    def test_several_lines_of_a_look(self):
        desk = begun()
        desk.say("give ann value a 0")
        desk.say("give ann value a 9")
        self.hears(desk, "look ann", "0 unsaid")
        desk.say("withdraw 1")
        desk.say("find a 8 9 1")
        self.hears(desk, "look ann", "0 said again; 3 unsaid")

    def test_as_the_document_shows_it(self):
        """Held against a log of the same deeds, shown here in another way."""
        for seed, (keys, script) in enumerate(SCRIPTS):
            draw, desk, log, given = random.Random(seed + 500), Desk(), Log(keys), []
            self.hears(desk, "keys " + " ".join(keys), "ok")
            for deed in script:
                if len(given) < 40:
                    given.append(self.give(desk, log, given, draw.choice(("ann", "bob")), drawn_text(draw, keys, 1)))
                if isinstance(deed, tuple):
                    self.hears(desk, "find {} {} {} {}".format(*deed), f"finding {len(log.findings)}")
                    log.find(*deed)
                else:
                    self.hears(desk, f"withdraw {deed}", "withdrawn")
                    log.withdraw(deed)
                self.check(desk, log, given, drawn_text(draw, keys, draw.randrange(3)), draw)

    def give(self, desk, log, given, who, text):
        answer = log.answered(text, log.now())[0]
        self.hears(desk, f"give {who} {text}", f"answer {len(given)}: {self.answer(answer)}")
        return who, text, log.now(), answer

    def check(self, desk, log, given, text, draw):
        turn, key = draw.randrange(log.now() + 1), draw.choice(log.keys)
        answer, grounds = log.answered(text, log.now())
        self.hears(desk, "ask " + text, self.answer(answer))
        self.hears(desk, "grounds " + text, self.rows(grounds))
        self.hears(desk, f"at {turn} {text}", self.answer(log.answered(text, turn)[0]))
        self.hears(desk, "turn", str(log.now()))
        self.hears(desk, "table " + key, self.rows(log.table(key, log.now())))
        self.hears(desk, f"table {key} {turn}", self.rows(log.table(key, turn)))
        self.hears(desk, f"unlike {turn} {log.now()}", self.rows(log.boxes(turn, log.now())))
        rows = [f"{number} since {since} by {word} {about}" for number, since, (word, about) in log.unsaid(given)]
        self.hears(desk, "unsaid", "; ".join(rows) or "-")

    def answer(self, answer):
        return "nothing" if answer is None else f"{answer}"

    def rows(self, rows):
        return "; ".join(["%s" % " ".join([str(part) for part in row]).replace("None", "-") for row in rows]) or "-"

    def test_questions_that_have_words_like_lines(self):
        desk = Desk()
        desk.say("keys keys find ask turn at give")
        desk.say("find keys 0 9 5")
        self.hears(desk, "ask sum keys,find,ask 0 9", "50")
        self.hears(desk, "give give value at 3", "answer 0: nothing")
        self.hears(desk, "at 0 value turn 3", "nothing")
        self.hears(desk, "table keys", "0 9 0")
        self.hears(desk, "look look", "-")
        self.hears(desk, "find find 0 0 0", "finding 1")

    def test_numbers_at_the_edges(self):
        desk = Desk()
        desk.say("keys a")
        self.hears(desk, "find a 0 399 -1000000000", "finding 0")
        self.hears(desk, "ask sum a 0 399", "-400000000000")
        self.hears(desk, "find a 399 399 1000000000", "finding 1")
        self.hears(desk, "find a 0 0 0", "finding 2")
        self.hears(desk, "withdraw 0", "withdrawn")
        self.hears(desk, "table a", "0 0 2; 399 399 1")


class Keys(Held):
    def test_a_new_line_forgets_what_was_before(self):
        desk = begun()
        desk.say("look ann")
        self.hears(desk, "keys b c", "ok")
        self.hears(desk, "turn", "0")
        self.hears(desk, "unsaid", "-")
        self.hears(desk, "table b", "-")
        self.refused(desk, errors.NoKey, "key", "a", "table a")
        self.refused(desk, errors.NoTurn, "turn", 1, "at 1 value b 1")
        self.refused(desk, errors.NoFinding, "number", 0, "withdraw 0")
        self.hears(desk, "give ann value b 3", "answer 0: nothing")
        self.hears(desk, "find b 3 3 1", "finding 0")
        # Lookers of its own: ann has not looked here.
        self.hears(desk, "look ann", "0 unsaid")

    def test_the_same_keys_again(self):
        desk = begun()
        self.hears(desk, "look ann", "0 unsaid")
        self.hears(desk, "keys a b", "ok")
        self.hears(desk, "look ann", "-")
        self.hears(desk, "turn", "0")

    def test_what_the_ledger_refuses_leaves_all(self):
        for line in ("keys a a", "keys a b a", "keys a b c d e f g h i", "keys a b c d e f g a", "keys a b c d e f g h i j k l"):
            desk = begun()
            self.refused(desk, errors.NoKeys, None, None, line)
            self.hears(desk, "look ann", "0 unsaid")
            self.refused(desk, errors.NoKeys, None, None, line)
            self.hears(desk, "look ann", "-")
            self.hears(desk, "give ann value b 3", "answer 2: nothing")
            new = Desk()
            self.refused(new, errors.NoKeys, None, None, line)
            for other in LINES:
                self.no_line(new, other)

    def test_what_is_no_keys_line_leaves_all(self):
        for line in (
            "keys", "keys ", "keys  a", "keys a ", "keys a  b", " keys a", "keys A", "keys a B", "keys abcdefghi", "Keys a",
            "keys a,b", "keys 1", "keys a 1", "keys a\n", "keys\ta", "keys\na", "keysa", "key a", "KEYS a", "keys a\tb",
            "keys a a ", "keys a b c d e f g h i J",
        ):
            self.no_line(begun(), line)
            self.no_line(Desk(), line)

    def test_one_to_eight(self):
        for names in ("a", "a b c d e f g h", "abcdefgh", "keys", "h g f e d c b a"):
            desk = Desk()
            self.hears(desk, "keys " + names, "ok")
            for name in names.split(" "):
                self.hears(desk, "table " + name, "-")


class NoLines(Held):
    def test_things_that_are_no_texts(self):
        for desk in (Desk(), begun()):
            for thing in [*THINGS, ["turn"], ("turn",), {"turn": 1}, [["keys", "a"]], 1, 0]:
                self.no_line(desk, thing)

    def test_as_long_as_no_ledger_is_there(self):
        desk = Desk()
        for line in (*LINES, "", " ", "nothing", "ask ", "ask", "at x", "give", "give ann ", "find", "find a 5 3 1"):
            self.no_line(desk, line)
        self.hears(desk, "keys a b", "ok")
        self.hears(desk, "find a 0 9 5", "finding 0")

    def test_every_line_of_the_document_is_one(self):
        for line in LINES:
            begun().say(line)

    def test_blanks_too_many_or_too_few(self):
        for line in LINES:
            self.no_line(begun(), " " + line)
            self.no_line(begun(), line.replace(" ", "", 1) if " " in line else line + " ")
            self.no_line(begun(), line.replace(" ", "\t", 1) if " " in line else line + "\t")
            self.no_line(begun(), line.replace(" ", "\n", 1) if " " in line else line + "\n")
        for line in (
            "find  a 0 9 5", "find a  0 9 5", "find a 0  9 5", "find a 0 9  5", "find a 0 9 5 ", "find a 09 5",
            "withdraw  1", "withdraw 1 ", "give  ann value a 3", "look  ann", "look ann ", "at  0 value a 3", "unsaid ",
            "unsaid  ", "turn ", "turn  ", "table  a", "table a ", "table a  0", "table a 0 ", "unlike  0 2",
            "unlike 0  2", "unlike 0 2 ", "", " ", "  ", "find ", "table ", "look ", "withdraw ", "unlike ", "at ", "give ",
            "at  value a 3", "give  value a 3", "give  ", "at  ",
        ):
            self.no_line(begun(), line)

    def test_words_too_many_or_too_few(self):
        for line in (
            "find", "find a", "find a 0", "find a 0 9", "find a 0 9 5 5", "find 0 9 5", "withdraw", "withdraw 1 1", "give",
            "give ann", "look", "look ann bob", "ask", "at", "at 0", "grounds", "unsaid 0", "unsaid ann", "turn 0", "table",
            "table a 0 0", "table a b", "unlike", "unlike 0", "unlike 0 1 2", "tables a", "said", "a", "finding 0", "ok", "-",
            "nothing", "value a 3", "kept", "deed 1", "keys",
        ):
            self.no_line(begun(), line)

    def test_great_letters(self):
        for line in LINES:
            self.no_line(begun(), line.capitalize())
            self.no_line(begun(), line.upper())
        for line in (
            "find A 0 9 5", "give Ann value a 3", "look Ann", "look ANN", "table A", "table A 0", "give aNN value a 3",
        ):
            self.no_line(begun(), line)

    def test_names_that_are_none(self):
        for name in ("abcdefghi", "a1", "1", "a,b", "-", "a-b", "a\n", "(", "~"):
            for line in ("find {} 0 9 5", "give {} value a 3", "look {}", "table {}", "table {} 0"):
                self.no_line(begun(), line.format(name))

    def test_numbers_not_written_plainly(self):
        numbers = ("07", "00", "-0", "+1", "", "-", "1.0", "1e1", "one", "1" * 13, "9" * 40, "0x1", "1_0", "1\n", "\t1", "a", "1,")
        for number in numbers:
            for line in (
                "find a {} 9 5", "find a 0 {} 5", "find a 0 9 {}", "withdraw {}", "at {} value a 3", "table a {}",
                "unlike {} 0", "unlike 0 {}",
            ):
                self.no_line(begun(), line.format(number))
        # Below 0 a value alone may be.
        for number in ("-1", "-999999999999"):
            for line in ("find a {} 9 5", "find a 0 {} 5", "withdraw {}", "at {} value a 3", "table a {}", "unlike {} 0", "unlike 0 {}"):
                self.no_line(begun(), line.format(number))
        self.no_line(begun(), "find a 0 9 -1" + "0" * 12)
        self.no_line(begun(), "find a 0 9 --1")
        self.no_line(begun(), "find a 0 9 -01")

    def test_ahead_of_all_else(self):
        for line in (
            "find zzz 400 -1 5", "find zzz 400 1 x", "find A 400 1 5000000000", "at -1 nothing", "at 99", "table zzz 07",
            "table ZZZ 99", "unlike 99 x", "give ANN nothing", "give ANN ", "withdraw 99 99", "keys a a 1",
        ):
            self.no_line(begun(), line)


class Refusals(Held):
    def test_questions(self):
        for head in ("ask ", "at 0 ", "at 2 ", "at 99 ", "grounds ", "give ann "):
            for question, place in BAD_QUESTIONS:
                self.refused(begun(), errors.BadQuestion, "place", place, head + question)
            self.refused(begun(), errors.NoKey, "key", "d", head + "part d c 0 1")
            self.refused(begun(), errors.NoKey, "key", "value", head + "value value 1")

    def test_turns(self):
        desk = begun()
        for turn in (5, 60, 99, 999999999999):
            self.refused(desk, errors.NoTurn, "turn", turn, f"at {turn} value a 3")
            self.refused(desk, errors.NoTurn, "turn", turn, f"at {turn} number 1")
            self.refused(desk, errors.NoTurn, "turn", turn, f"table a {turn}")
            self.refused(desk, errors.NoTurn, "turn", turn, f"unlike {turn} 98")
            self.refused(desk, errors.NoTurn, "turn", turn, f"unlike 0 {turn}")
        self.hears(desk, "at 4 value a 3", "-7")

    def test_keys_of_the_book(self):
        for key in ("c", "find", "zzz", "ab"):
            self.refused(begun(), errors.NoKey, "key", key, f"find {key} 400 0 2000000000")
            self.refused(begun(), errors.NoKey, "key", key, f"table {key}")
            self.refused(begun(), errors.NoKey, "key", key, f"table {key} 99")

    def test_findings(self):
        for line, day in (
            ("find a 400 400 5", 400), ("find a 999999999999 0 5", 999999999999), ("find a 0 400 5", 400),
            ("find a 5 4 5", 4), ("find a 399 0 2000000000", 0),
        ):
            self.refused(begun(), errors.NoDay, "day", day, line)
        for value in (1000000001, -1000000001, 999999999999, -999999999999):
            self.refused(begun(), errors.NoValue, "thing", value, f"find a 0 9 {value}")

    def test_withdrawals(self):
        desk = begun()
        for number in (3, 4, 60, 999999999999):
            self.refused(desk, errors.NoFinding, "number", number, f"withdraw {number}")
        self.refused(desk, errors.Gone, "number", 2, "withdraw 2")

    def test_sixty_deeds(self):
        desk = begun()
        for _ in range(56):
            desk.say("find a 0 9 5")
        self.refused(desk, errors.Full, None, None, "find a 0 9 5")
        self.refused(desk, errors.Full, None, None, "withdraw 0")
        self.hears(desk, "turn", "60")

    def test_forty_answers(self):
        desk = begun()
        for number in range(2, 40):
            self.hears(desk, "give ann value b 3", f"answer {number}: nothing")
        self.refused(desk, errors.Full, None, None, "give ann value b 3")
        self.refused(desk, errors.BadQuestion, "place", 0, "give ann ")
        self.refused(desk, errors.NoLine, None, None, "give ann")

    def test_what_is_refused_is_no_look(self):
        desk = begun()
        for line in ("look Ann", "look ann ", "look", "give ann x", "withdraw 7", "find c 0 0 0", None, "keys a a"):
            with self.assertRaises(errors.UnsayError):
                desk.say(line)
        self.hears(desk, "look ann", "0 unsaid")
        self.hears(desk, "look bob", "-")

    def test_a_refused_answer_is_not_given(self):
        desk = begun()
        for line in ("give ann value a", "give ann value c 1", "give Ann value a 3"):
            with self.assertRaises(errors.UnsayError):
                desk.say(line)
        self.hears(desk, "give ann value a 3", "answer 2: -7")


class Desks(Held):
    def test_two_desks_have_nothing_in_common(self):
        desk, other = begun(), Desk()
        self.no_line(other, "turn")
        other.say("keys a b")
        other.say("find a 0 9 1")
        other.say("give ann value a 3")
        other.say("withdraw 0")
        self.assertEqual(told(desk), told(begun()))
        self.hears(desk, "look ann", "0 unsaid")
        self.hears(other, "look ann", "0 unsaid")

    def test_to_ask_changes_nothing(self):
        desk = begun()
        self.assertEqual(told(desk), told(desk))
        self.hears(desk, "look ann", "0 unsaid")

    def test_handed_in_things_stay(self):
        thing = [["keys", "a"]]
        self.no_line(begun(), thing)
        self.assertEqual(thing, [["keys", "a"]])


if __name__ == "__main__":
    unittest.main()
