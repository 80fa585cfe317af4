"""Texts read as questions, word by word, up to the first word that cannot stand where it stands."""

from unsaybook.errors import BadQuestion
from unsaybook.findings import MOST_VALUE, are_keys
from unsaybook.questions import Change, Choice, Gathering, Number, Part, Reckoning, Since, Value
from unsaybook.words import LAST_DAY, is_name, number_of

MOST_OPEN = 3
MOST_RANK = 400
SINGLE = ("number", "value", "since", "part", "change")
GATHERING = ("sum", "count", "least", "greatest")
RECKONING = ("plus", "minus")
CHOICE = ("less", "same")


# The words of a text, and how far they were read.
class Reader:
    def __init__(self, text):
        self.words = text.split(" ")
        self.place = 0
        self.opened = 0

    def here(self):
        if self.place == len(self.words):
            raise BadQuestion(self.place)
        return self.words[self.place]

    def go_on(self, can_stand):
        if not can_stand:
            raise BadQuestion(self.place)
        self.place += 1

    def beginning_here(self):
        word = self.here()
        self.go_on(word in SINGLE or word in GATHERING or word in RECKONING or word in CHOICE)
        return word

    def number_here(self, low, high):
        number = number_of(self.here(), low, high)
        self.go_on(number is not None)
        return number

    def value_here(self):
        return self.number_here(-MOST_VALUE, MOST_VALUE)

    def day_here(self, earliest):
        return self.number_here(earliest, LAST_DAY)

    def key_here(self):
        key = self.here()
        self.go_on(is_name(key))
        return key

    def keys_here(self):
        keys = self.here().split(",")
        self.go_on(are_keys(keys))
        return keys

    def bracket_opens(self):
        self.go_on(self.here() == "(" and self.opened < MOST_OPEN)
        self.opened += 1

    def bracket_closes(self):
        self.go_on(self.here() == ")")
        self.opened -= 1

    def check_end(self):
        if self.place < len(self.words):
            raise BadQuestion(self.place)


def question_of(text):
    if not isinstance(text, str):
        raise BadQuestion(0)
    reader = Reader(text)
    question = question_here(reader)
    reader.check_end()
    return question


def question_here(reader):
    word = reader.beginning_here()
    if word in GATHERING:
        keys = reader.keys_here()
        first = reader.day_here(0)
        return Gathering(word, keys, first, reader.day_here(first))
    if word in RECKONING:
        inner = questions_here(reader, 2)
        return Reckoning(word, inner[0], inner[1])
    if word in CHOICE:
        inner = questions_here(reader, 4)
        return Choice(word, inner[0], inner[1], inner[2], inner[3])
    return single_here(reader, word)


def single_here(reader, word):
    if word == "number":
        return Number(reader.value_here())
    if word == "value":
        key = reader.key_here()
        return Value(key, reader.day_here(0))
    if word == "since":
        key = reader.key_here()
        bound = reader.value_here()
        first = reader.day_here(0)
        return Since(key, bound, first, reader.day_here(first))
    if word == "part":
        one = reader.key_here()
        other = reader.key_here()
        first = reader.day_here(0)
        return Part(one, other, first, reader.day_here(first))
    rank = reader.number_here(1, MOST_RANK)
    key = reader.key_here()
    first = reader.day_here(0)
    return Change(rank, key, first, reader.day_here(first))


def questions_here(reader, count):
    inner = []
    while len(inner) < count:
        reader.bracket_opens()
        inner.append(question_here(reader))
        reader.bracket_closes()
    return inner
