"""Books and questions reckoned without the program, day by day: what the tests hold it against."""

import random

from unsaybook.findings import Book

DAYS = range(400)
SOME_DAYS = (0, 1, 2, 5, 6, 7, 40, 200, 397, 398, 399)
THINGS = (
    True, False, None, "", "a", "b", "0", "1", "find", " ", "A", "two words\n\t", [], [0], ["a"], [["a"]], (), (0,),
    ("a",), ("find", 0), {}, {"a": 0}, {0: [1]}, -1, 10 ** 99, -(10 ** 99),
)


def fewest(told):
    """The fewest rows that tell of each day the marks in this dict of tuples."""
    rows = []
    for day in sorted(told):
        if rows and rows[-1][1] == day - 1 and rows[-1][2:] == told[day]:
            rows[-1] = (rows[-1][0], day, *told[day])
        else:
            rows.append((day, day, *told[day]))
    return rows


class Log:
    """The deeds of a book as they were done; each thing that is asked is found by going through them."""

    def __init__(self, keys):
        self.keys = list(keys)
        self.deeds = []
        self.findings = []
        self.known_speakers = {}
        self.known_values = {}
        self.known_answers = {}

    def find(self, key, first, last, value):
        self.deeds.append(("find", len(self.findings)))
        self.findings.append([key, first, last, value, len(self.deeds), None])

    def withdraw(self, number):
        self.deeds.append(("withdraw", number))
        self.findings[number][5] = len(self.deeds)

    def now(self):
        return len(self.deeds)

    def speakers(self, key, turn):
        """Who speaks on each of the 400 days."""
        if (key, turn) not in self.known_speakers:
            speakers = [None for _ in DAYS]
            for number, (about, first, last, _, entered, withdrawn) in enumerate(self.findings):
                if about == key and entered <= turn and (withdrawn is None or turn < withdrawn):
                    for day in range(first, last + 1):
                        speakers[day] = number
            self.known_speakers[key, turn] = speakers
        return self.known_speakers[key, turn]

    def values(self, key, turn):
        return [None if number is None else self.findings[number][3] for number in self.speakers(key, turn)]

    def told(self, turn):
        """All values that are told, by key and day."""
        if turn not in self.known_values:
            rows = [(key, day, value) for key in self.keys for day, value in enumerate(self.values(key, turn))]
            self.known_values[turn] = {(key, day): value for key, day, value in rows if value is not None}
        return self.known_values[turn]

    def answered(self, text, turn):
        """The answer to a question, and its grounds."""
        if (text, turn) not in self.known_answers:
            meaning = Meaning(text, self.told(turn))
            grounds = []
            for key in sorted({key for key, _ in meaning.reads}):
                speakers = self.speakers(key, turn)
                days = [day for about, day in meaning.reads if about == key]
                grounds += [(key, *row) for row in fewest({day: (speakers[day],) for day in days})]
            self.known_answers[text, turn] = (meaning.answer, grounds)
        answer, grounds = self.known_answers[text, turn]
        return answer, list(grounds)

    def changed(self, turn):
        """The longest stretches (key, first, last) on which the deed of this turn changed who speaks."""
        boxes = []
        for key in self.keys:
            pairs = zip(self.speakers(key, turn - 1), self.speakers(key, turn))
            boxes += [(key, *row) for row in fewest({day: () for day, (one, other) in enumerate(pairs) if one != other})]
        return boxes

    def unsaid(self, given):
        """Of a list of given answers (who, text, turn, answer): which are unsaid now, since when and by what."""
        rows = []
        for number, (_, text, turn, answer) in enumerate(given):
            since = None
            for known in range(turn, self.now() + 1):
                if self.answered(text, known)[0] == answer:
                    since = None
                elif since is None:
                    since = known
            if since is not None:
                rows.append((number, since, self.deeds[since - 1]))
        return rows

    def table(self, key, turn):
        speakers = self.speakers(key, turn)
        return fewest({day: (speakers[day],) for day in DAYS if speakers[day] is not None})

    def boxes(self, one, other, of_values=False):
        told = self.values if of_values else self.speakers
        boxes = []
        for key in self.keys:
            pairs = dict(enumerate(zip(told(key, one), told(key, other))))
            unlike = {day: pair for day, pair in pairs.items() if pair[0] != pair[1]}
            boxes += [(key, *row) for row in fewest(unlike)]
        return boxes


def done(keys, script):
    """A book and a log that have taken the same deeds: a tuple is a finding, a number a withdrawal."""
    book, log = Book(list(keys)), Log(keys)
    for deed in script:
        do(book, log, deed)
    return book, log


def do(book, log, deed):
    if isinstance(deed, tuple):
        book.find(*deed)
        log.find(*deed)
    else:
        book.withdraw(deed)
        log.withdraw(deed)


def drawn(keys, deeds, seed):
    """A script of so many deeds, the same one each time, whose findings often meet one another."""
    draw = random.Random(seed)
    script, standing, count = [], [], 0
    while len(script) < deeds:
        if standing and draw.random() < 0.4:
            script.append(standing.pop(draw.randrange(len(standing))))
        else:
            first, last = sorted([draw.choice(SOME_DAYS) for _ in "ab"])
            script.append((draw.choice(keys), first, last, draw.choice((-(10 ** 9), -1, 0, 0, 1, 10 ** 9))))
            standing.append(count)
            count += 1
    return script


class Meaning:
    """A question's text gone through by point 40 and 42: its answer, what it reads, and what it names."""

    def __init__(self, text, values):
        self.values = values
        self.words = text.split(" ")
        self.answer, self.reads, self.named = self.question()
        if self.words:
            raise AssertionError(f"words are left in {text}")

    def question(self):
        word = self.words.pop(0)
        if word in ("plus", "minus", "less", "same"):
            return self.bracketed(word)
        answer, reads, named = getattr(self, "of_" + word)()
        return answer, set(reads), set(named)

    def bracketed(self, word):
        inner = []
        for _ in range(2 if word in ("plus", "minus") else 4):
            assert self.words.pop(0) == "("
            inner.append(self.question())
            assert self.words.pop(0) == ")"
        a, b = inner[0][0], inner[1][0]
        reads, named = inner[0][1] | inner[1][1], set().union(*[part[2] for part in inner])
        if word in ("plus", "minus"):
            lacks = a is None or b is None
            return None if lacks else a + b if word == "plus" else a - b, reads, named
        chosen = a == b if word == "same" else a is not None and b is not None and a < b
        given = inner[2] if chosen else inner[3]
        return given[0], reads | given[1], named

    def whole(self):
        return int(self.words.pop(0))

    def stretch(self, *keys):
        first, last = self.whole(), self.whole()
        return [[(key, day) for day in range(first, last + 1)] for key in keys]

    def of_number(self):
        return self.whole(), [], []

    def of_value(self):
        place = (self.words.pop(0), self.whole())
        return self.values.get(place), [place], [place]

    def gathered(self):
        places = sum(self.stretch(*self.words.pop(0).split(",")), [])
        return [self.values[place] for place in places if place in self.values], places

    def of_sum(self):
        values, places = self.gathered()
        return sum(values), places, places

    def of_count(self):
        values, places = self.gathered()
        return len(values), places, places

    def of_least(self):
        values, places = self.gathered()
        return sorted(values)[0] if values else None, places, places

    def of_greatest(self):
        values, places = self.gathered()
        return sorted(values)[-1] if values else None, places, places

    def of_since(self):
        key, bound = self.words.pop(0), self.whole()
        (places,) = self.stretch(key)
        starts = [
            start for start in range(len(places))
            if all(place in self.values and self.values[place] >= bound for place in places[start:])
        ]
        if not starts:
            return None, places[-1:], places
        return places[starts[0]][1], places[max(starts[0] - 1, 0):], places

    def of_part(self):
        one, other = self.stretch(self.words.pop(0), self.words.pop(0))
        unlike = [place for place, beside in zip(one, other) if self.values.get(place) != self.values.get(beside)]
        return len(unlike), one + other, one + other

    def of_change(self):
        rank, key = self.whole(), self.words.pop(0)
        (places,) = self.stretch(key)
        days = [day for (_, day) in places[1:] if self.values.get((key, day)) != self.values.get((key, day - 1))]
        if len(days) < rank:
            return None, places, places
        return days[rank - 1], [place for place in places if place[1] <= days[rank - 1]], places


def drawn_text(draw, keys, depth):
    """The text of a question of this depth, about some of these keys."""
    if depth == 0:
        return drawn_single(draw, keys)
    word = draw.choice(("plus", "minus", "less", "same"))
    inner = [drawn_text(draw, keys, draw.randrange(depth)) for _ in range(2 if word in ("plus", "minus") else 4)]
    inner[draw.randrange(len(inner))] = drawn_text(draw, keys, depth - 1)
    return " ".join([word, *[f"( {text} )" for text in inner]])


def drawn_single(draw, keys):
    key, other = draw.choice(keys), draw.choice(keys)
    several = ",".join(draw.sample(keys, draw.randrange(1, min(3, len(keys)) + 1)))
    first, last = sorted([draw.choice(SOME_DAYS), draw.choice(SOME_DAYS)])
    return draw.choice((
        f"number {draw.randrange(-1, 2)}",
        f"value {key} {first}",
        f"{draw.choice(('sum', 'count', 'least', 'greatest'))} {several} {first} {last}",
        f"since {key} {draw.choice((-1, 0, 1))} {first} {last}",
        f"part {key} {other} {first} {last}",
        f"change {draw.choice((1, 1, 2, 3))} {key} {first} {last}",
    ))


EIGHT = ("value", "sum", "abcdefgh", "z", "y", "x", "keys", "a")
SCRIPTS = (
    (("a",), ()),
    (("a",), (("a", 3, 9, 5),)),
    (("a", "b"), (("a", 3, 9, 5), ("b", 3, 9, 5), 0, 1)),
    # A later finding within an earlier one, beside it, and over it, withdrawn in several orders.
    (("a",), (("a", 0, 399, 1), ("a", 10, 20, 2), ("a", 21, 30, 2), ("a", 15, 25, 1), 1, 0, 3, 2)),
    (("a",), (("a", 0, 0, 1), ("a", 399, 399, 1), ("a", 0, 399, 1), 2, ("a", 1, 398, 1))),
    # Values that come again by another finding, across the place where the speaker changes.
    (("b", "a"), (("a", 2, 5, 7), ("a", 6, 9, 7), ("a", 4, 7, 7), ("b", 4, 7, 0), 0, ("a", 2, 9, 7), 4, 2)),
    (EIGHT, tuple((key, place, 10 + place, place) for place, key in enumerate(EIGHT)) + (3, 0, 7)),
    (("b", "c", "a"), tuple(drawn(("b", "c", "a"), 24, 1))),
    (("q",), tuple(drawn(("q",), 30, 2))),
    (("m", "n"), tuple(drawn(("m", "n"), 60, 3))),
)
