"""A desk: lines that do something with a ledger, or ask it, each answered with a text."""

from unsaybook.errors import NoLine
from unsaybook.ledger import Ledger
from unsaybook.lookers import Lookers
from unsaybook.words import is_name, number_of

# The greatest number that can be written plainly.
MOST_WRITTEN = 999999999999
# All lines but that of the keys, which has as many names as are told.
FORMS = (
    ("find", "NAME", "NUMBER", "NUMBER", "VALUE"),
    ("withdraw", "NUMBER"),
    ("give", "NAME", "QUESTION"),
    ("look", "NAME"),
    ("ask", "QUESTION"),
    ("at", "NUMBER", "QUESTION"),
    ("grounds", "QUESTION"),
    ("unsaid",),
    ("turn",),
    ("table", "NAME"),
    ("table", "NAME", "NUMBER"),
    ("unlike", "NUMBER", "NUMBER"),
)


class Desk:
    def __init__(self):
        self.ledger = None
        self.lookers = None

    def say(self, line):
        if not isinstance(line, str):
            raise NoLine()
        if line.split(" ")[0] == "keys":
            return self.begin(keys_of(line))
        if self.ledger is None:
            raise NoLine()
        things = things_of(line)
        if things[0] in ("find", "withdraw", "give", "look"):
            return self.carry_out(things)
        return self.answer_to(things)

    def begin(self, keys):
        # Made first: where the keys are refused, what was before stays.
        ledger = Ledger(keys)
        self.ledger = ledger
        self.lookers = Lookers(ledger)
        return "ok"

    def carry_out(self, things):
        word = things[0]
        if word == "find":
            number = self.ledger.find(things[1], things[2], things[3], things[4])
            return f"finding {number}"
        if word == "withdraw":
            self.ledger.withdraw(things[1])
            return "withdrawn"
        if word == "give":
            number = self.ledger.give(things[1], things[2])
            answer = answer_shown(self.ledger.given(number)[3])
            return f"answer {number}: {answer}"
        return rows_shown(self.lookers.look(things[1]))

    def answer_to(self, things):
        word = things[0]
        if word == "ask":
            return answer_shown(self.ledger.ask(things[1])[0])
        if word == "at":
            return answer_shown(self.ledger.ask(things[2], things[1])[0])
        if word == "grounds":
            return rows_shown(self.ledger.ask(things[1])[1])
        if word == "unsaid":
            rows = self.ledger.unsaid()
            return rows_shown([(number, "since", since, "by", deed[0], deed[1]) for number, since, deed in rows])
        if word == "turn":
            return str(self.ledger.now())
        if word == "unlike":
            return rows_shown(self.ledger.unlike(things[1], things[2]))
        return rows_shown(self.ledger.table(things[1], things[2] if len(things) > 2 else None))


def keys_of(line):
    names = line.split(" ")[1:]
    if not names or not all([is_name(name) for name in names]):
        raise NoLine()
    return names


def things_of(line):
    for form in FORMS:
        things = read_as(line, form)
        if things is not None:
            return things
    raise NoLine()


def read_as(line, form):
    # A question is all that is left, whatever blanks it has.
    words = line.split(" ", len(form) - 1) if form[-1] == "QUESTION" else line.split(" ")
    if len(words) != len(form):
        return None
    things = [thing_of(word, slot) for word, slot in zip(words, form)]
    return None if None in things else things


def thing_of(word, slot):
    if slot == "QUESTION":
        return word
    if slot == "NAME":
        return word if is_name(word) else None
    if slot == "NUMBER":
        return number_of(word, 0, MOST_WRITTEN)
    if slot == "VALUE":
        return number_of(word, -MOST_WRITTEN, MOST_WRITTEN)
    return word if word == slot else None


def answer_shown(answer):
    return "nothing" if answer is None else str(answer)


def rows_shown(rows):
    return "; ".join([row_shown(row) for row in rows]) if rows else "-"


def row_shown(row):
    return " ".join(["-" if part is None else str(part) for part in row])
