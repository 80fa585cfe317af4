"""Questions answered from a book, as known at a turn: with their grounds, or plainly."""

from unsaybook.questions import Question
from unsaybook.questiontexts import question_of
from unsaybook.strips import filled, joined
from unsaybook.turns import value_of
from unsaybook.words import LAST_DAY


# What is told on all days of some keys, as known at a turn, and which of these days were asked for.
class Hearing:
    def __init__(self, book, keys, turn):
        # Of each key, for each day the finding that speaks, and its value.
        self.speakers = {}
        self.sayings = {}
        # Of each key a dict of days: a day may be read more than once.
        self.heard = {}
        for key in keys:
            self.lay_out(book, key, turn)

    def lay_out(self, book, key, turn):
        speakers = []
        sayings = []
        for first, last, number in filled(book.table(key, turn), 0, LAST_DAY):
            speakers.extend([number] * (last - first + 1))
            sayings.extend([value_of(book, number)] * (last - first + 1))
        self.speakers[key] = speakers
        self.sayings[key] = sayings
        self.heard[key] = {}

    def told(self, key, day):
        self.heard[key][day] = True
        return self.sayings[key][day]

    def grounds(self):
        boxes = []
        for key in sorted(self.heard):
            speakers = self.speakers[key]
            for first, last, number in joined([(day, day, speakers[day]) for day in self.heard[key]]):
                boxes.append((key, first, last, number))
        return boxes


def answered(book, question, turn=None):
    asked = question_meant(book, question)
    hearing = Hearing(book, asked.asked_keys(), book.turn_meant(turn))
    answer = asked.read(lambda key, day: hearing.told(key, day))
    return (answer, hearing.grounds())


def plainly(book, question, turn=None):
    asked = question_meant(book, question)
    meant = book.turn_meant(turn)
    return asked.plain(lambda key, day: book.value(key, day, meant))


def question_meant(book, question):
    asked = question if isinstance(question, Question) else question_of(question)
    # All its keys, also those that would not be read.
    for key in asked.asked_keys():
        book.check_key(key)
    return asked
