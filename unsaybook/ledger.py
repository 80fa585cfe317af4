"""A ledger: a book of its own, the answers given from it, and which of these are unsaid."""

from unsaybook.answers import answered
from unsaybook.errors import Full, NoGiven, NoName
from unsaybook.findings import Book
from unsaybook.questiontexts import question_of
from unsaybook.store import Store
from unsaybook.turns import unlike
from unsaybook.words import is_name, is_whole

MOST_GIVEN = 40


class Ledger:
    def __init__(self, keys):
        self.book = Book(keys)
        self.store = Store(self.book)
        # Rows (who, text, turn, answer), in the order in which they were given.
        self.entries = []
        # Of each given answer, the turn since which the book answers otherwise; None where it answers so now.
        self.turned = []

    def find(self, key, first, last, value):
        number = self.store.find(key, first, last, value)[0]
        self.hold_against_now()
        return number

    def withdraw(self, number):
        self.store.withdraw(number)
        self.hold_against_now()

    def ask(self, text, turn=None):
        if turn is None:
            return self.store.ask(text)[:2]
        return answered(self.book, question_of(text), turn)

    def give(self, who, text):
        if not is_name(who):
            raise NoName(who)
        answer = self.ask(text)[0]
        if len(self.entries) >= MOST_GIVEN:
            raise Full()
        self.entries.append((who, text, self.now(), answer))
        self.turned.append(None)
        return len(self.entries) - 1

    def given(self, number):
        if not is_whole(number, 0, len(self.entries) - 1):
            raise NoGiven(number)
        return self.entries[number]

    def unsaid(self):
        rows = []
        for number, since in enumerate(self.turned):
            if since is not None:
                rows.append((number, since, self.book.deed_at(since)))
        return rows

    def now(self):
        return self.book.now()

    def table(self, key, turn=None):
        return self.book.table(key, turn)

    def unlike(self, one, other):
        return unlike(self.book, one, other)

    def hold_against_now(self):
        for number, entry in enumerate(self.entries):
            # The store reckons anew just those texts that the deed has let go.
            if self.ask(entry[1])[0] == entry[3]:
                self.turned[number] = None
            elif self.turned[number] is None:
                self.turned[number] = self.now()
