"""Books reckoned without the program, deed by deed and day by day: what the tests hold it against."""

import random

from unsaybook.findings import Book

DAYS = range(400)
THINGS = (
    True, False, None, "", "a", "b", "0", "1", "find", " ", "A", "two words\n\t", [], [0], ["a"], [["a"]], (), (0,),
    ("a",), ("find", 0), {}, {"a": 0}, {0: [1]}, -1, 10 ** 99, -(10 ** 99),
)


def fewest(told):
    """The fewest rows that tell of each day the marks in this dict of tuples."""
    rows = []
    for day in sorted(told):
        if rows and rows[-1][1] == day - 1 and rows[-1][2:] == told[day]:
            rows[-1] = (rows[-1][0], day, *told[day])
        else:
            rows.append((day, day, *told[day]))
    return rows


class Log:
    """The deeds of a book as they were done; each thing that is asked is found by going through them."""

    def __init__(self, keys):
        self.keys = list(keys)
        self.deeds = []
        self.findings = []
        self.known_speakers = {}

    def find(self, key, first, last, value):
        self.deeds.append(("find", len(self.findings)))
        self.findings.append([key, first, last, value, len(self.deeds), None])

    def withdraw(self, number):
        self.deeds.append(("withdraw", number))
        self.findings[number][5] = len(self.deeds)

    def now(self):
        return len(self.deeds)

    def speakers(self, key, turn):
        """Who speaks on each of the 400 days."""
        if (key, turn) not in self.known_speakers:
            self.known_speakers[key, turn] = [self.speaker(key, day, turn) for day in DAYS]
        return self.known_speakers[key, turn]

    def speaker(self, key, day, turn):
        speaking = None
        for number, (about, first, last, _, entered, withdrawn) in enumerate(self.findings):
            known = entered <= turn and (withdrawn is None or turn < withdrawn)
            if known and about == key and first <= day <= last:
                speaking = number
        return speaking

    def values(self, key, turn):
        return [None if number is None else self.findings[number][3] for number in self.speakers(key, turn)]

    def table(self, key, turn):
        speakers = self.speakers(key, turn)
        return fewest({day: (speakers[day],) for day in DAYS if speakers[day] is not None})

    def boxes(self, one, other, of_values=False):
        told = self.values if of_values else self.speakers
        boxes = []
        for key in self.keys:
            pairs = dict(enumerate(zip(told(key, one), told(key, other))))
            unlike = {day: pair for day, pair in pairs.items() if pair[0] != pair[1]}
            boxes += [(key, *row) for row in fewest(unlike)]
        return boxes


def done(keys, script):
    """A book and a log that have taken the same deeds: a tuple is a finding, a number a withdrawal."""
    book, log = Book(list(keys)), Log(keys)
    for deed in script:
        do(book, log, deed)
    return book, log


def do(book, log, deed):
    if isinstance(deed, tuple):
        book.find(*deed)
        log.find(*deed)
    else:
        book.withdraw(deed)
        log.withdraw(deed)


def drawn(keys, deeds, seed):
    """A script of so many deeds, the same one each time, whose findings often meet one another."""
    draw = random.Random(seed)
    script, standing, count = [], [], 0
    while len(script) < deeds:
        if standing and draw.random() < 0.4:
            script.append(standing.pop(draw.randrange(len(standing))))
        else:
            first, last = sorted([draw.choice((0, 1, 2, 5, 6, 7, 40, 200, 397, 398, 399)) for _ in "ab"])
            script.append((draw.choice(keys), first, last, draw.choice((-(10 ** 9), -1, 0, 0, 1, 10 ** 9))))
            standing.append(count)
            count += 1
    return script


EIGHT = ("value", "sum", "abcdefgh", "z", "y", "x", "keys", "a")
SCRIPTS = (
    (("a",), ()),
    (("a",), (("a", 3, 9, 5),)),
    (("a", "b"), (("a", 3, 9, 5), ("b", 3, 9, 5), 0, 1)),
    # A later finding within an earlier one, beside it, and over it, withdrawn in several orders.
    (("a",), (("a", 0, 399, 1), ("a", 10, 20, 2), ("a", 21, 30, 2), ("a", 15, 25, 1), 1, 0, 3, 2)),
    (("a",), (("a", 0, 0, 1), ("a", 399, 399, 1), ("a", 0, 399, 1), 2, ("a", 1, 398, 1))),
    # Values that come again by another finding, across the place where the speaker changes.
    (("b", "a"), (("a", 2, 5, 7), ("a", 6, 9, 7), ("a", 4, 7, 7), ("b", 4, 7, 0), 0, ("a", 2, 9, 7), 4, 2)),
    (EIGHT, tuple((key, place, 10 + place, place) for place, key in enumerate(EIGHT)) + (3, 0, 7)),
    (("b", "c", "a"), tuple(drawn(("b", "c", "a"), 24, 1))),
    (("q",), tuple(drawn(("q",), 30, 2))),
    (("m", "n"), tuple(drawn(("m", "n"), 60, 3))),
)
