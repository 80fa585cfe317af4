"""A store of kept answers on a book: a deed lets go those on whose grounds it changes who speaks."""

from unsaybook.answers import answered
from unsaybook.index import Index
from unsaybook.questiontexts import question_of


class Store:
    def __init__(self, book):
        self.book = book
        # By text, the answer and its grounds.
        self.answers = {}
        self.boxes = Index()
        self.looked = 0

    def ask(self, text):
        known = self.has(text)
        if not known:
            self.keep(text)
        answer = self.answers[text]
        return (answer[0], list(answer[1]), known)

    def find(self, key, first, last, value):
        number = self.book.find(key, first, last, value)
        return (number, self.let_go(key, [(first, last)]))

    def withdraw(self, number):
        self.book.withdraw(number)
        key = self.book.found(number)[0]
        # The table ahead of the deed is tidy: each row of the finding is a longest stretch on which it spoke.
        table = self.book.table(key, self.book.now() - 1)
        return self.let_go(key, [(first, last) for first, last, speaker in table if speaker == number])

    def kept(self):
        return sorted(self.answers)

    def looks(self):
        return self.looked

    def has(self, text):
        # Other things may be of kinds that a dict cannot be asked for.
        return isinstance(text, str) and text in self.answers

    def keep(self, text):
        answer = answered(self.book, question_of(text))
        self.answers[text] = answer
        # Put without a check: a text somewhat longer than an owner may be is kept like others.
        self.boxes.put_all(text, [(key, first, last) for key, first, last, number in answer[1]])

    def let_go(self, key, stretches):
        touched = {}
        looked = 0
        for first, last in stretches:
            meeting = self.boxes.meeting(key, first, last)
            looked += meeting[1]
            for text in meeting[0]:
                touched[text] = True
        # Behind all the lookings, for each of them finds the index as it was ahead of the deed.
        for text in touched:
            self.answers.pop(text)
            self.boxes.take(text)
        self.looked = looked
        return sorted(touched)
