"""Questions in thirteen forms: their texts, keys and depth, and their answers, plainly and by reading.

A telling is a function of a key and a day; it gives a whole number, or None for nothing.
"""


# What all questions stand under.
class Question:
    def __init__(self, words, keys, depth):
        # A question is written in one way alone, so that its text can be put together from its words.
        self.written = " ".join(words)
        self.names = each_once(keys)
        self.levels = depth

    def text(self):
        return self.written

    def asked_keys(self):
        return list(self.names)

    def depth(self):
        return self.levels

    def plain(self, told):
        # Each form has an answer of its own.
        return None

    def read(self, told):
        # What most forms read are all the days that they name: then both ways of asking are one.
        return self.plain(told)


# `number N`.
class Number(Question):
    def __init__(self, number):
        Question.__init__(self, ["number", str(number)], [], 0)
        self.number = number

    def plain(self, told):
        return self.number


# `value KEY DAY`.
class Value(Question):
    def __init__(self, key, day):
        Question.__init__(self, ["value", key, str(day)], [key], 0)
        self.key = key
        self.day = day

    def plain(self, told):
        return told(self.key, self.day)


# `sum`, `count`, `least` or `greatest`, each with `KEYS FIRST LAST`.
class Gathering(Question):
    def __init__(self, word, keys, first, last):
        Question.__init__(self, [word, ",".join(keys), str(first), str(last)], keys, 0)
        self.word = word
        self.first = first
        self.last = last

    def plain(self, told):
        values = []
        for key in self.names:
            row = tellings(told, key, self.first, self.last)
            values.extend([value for value in row if value is not None])
        return gathered(self.word, values)


# `since KEY N FIRST LAST`.
class Since(Question):
    def __init__(self, key, bound, first, last):
        Question.__init__(self, ["since", key, str(bound), str(first), str(last)], [key], 0)
        self.key = key
        self.bound = bound
        self.first = first
        self.last = last

    def plain(self, told):
        start = None
        for day in range(self.first, self.last + 1):
            if not self.reaches(told(self.key, day)):
                start = None
            elif start is None:
                start = day
        return start

    def read(self, told):
        start = None
        for day in range(self.last, self.first - 1, -1):
            if not self.reaches(told(self.key, day)):
                return start
            start = day
        return start

    def reaches(self, value):
        return value is not None and value >= self.bound


# `part KEY KEY FIRST LAST`.
class Part(Question):
    def __init__(self, one, other, first, last):
        Question.__init__(self, ["part", one, other, str(first), str(last)], [one, other], 0)
        self.one = one
        self.other = other
        self.first = first
        self.last = last

    def plain(self, told):
        row = tellings(told, self.one, self.first, self.last)
        beside = tellings(told, self.other, self.first, self.last)
        return len([place for place in range(len(row)) if row[place] != beside[place]])


# `change N KEY FIRST LAST`.
class Change(Question):
    def __init__(self, rank, key, first, last):
        Question.__init__(self, ["change", str(rank), key, str(first), str(last)], [key], 0)
        self.rank = rank
        self.key = key
        self.first = first
        self.last = last

    def plain(self, told):
        row = tellings(told, self.key, self.first, self.last)
        days = [self.first + place for place in range(1, len(row)) if row[place] != row[place - 1]]
        return days[self.rank - 1] if self.rank <= len(days) else None

    def read(self, told):
        left = self.rank
        ahead = told(self.key, self.first)
        for day in range(self.first + 1, self.last + 1):
            here = told(self.key, day)
            if here != ahead:
                left -= 1
            if left == 0:
                return day
            ahead = here
        return None


# What has questions in brackets.
class Bracketed(Question):
    def __init__(self, word, inner):
        words = [word]
        keys = []
        for question in inner:
            words.extend(["(", question.text(), ")"])
            keys.extend(question.asked_keys())
        Question.__init__(self, words, keys, 1 + max([question.depth() for question in inner]))
        self.word = word
        self.inner = list(inner)


# `plus` or `minus`, each with `( A ) ( B )`.
class Reckoning(Bracketed):
    def __init__(self, word, one, other):
        Bracketed.__init__(self, word, [one, other])

    def plain(self, told):
        return reckoned(self.word, [question.plain(told) for question in self.inner])

    def read(self, told):
        # Both are read, though the first one may have nothing to tell already.
        return reckoned(self.word, [question.read(told) for question in self.inner])


# `less` or `same`, each with `( A ) ( B ) ( C ) ( D )`.
class Choice(Bracketed):
    def __init__(self, word, one, other, chosen, otherwise):
        Bracketed.__init__(self, word, [one, other, chosen, otherwise])

    def plain(self, told):
        answers = [question.plain(told) for question in self.inner]
        return answers[place_chosen(self.word, answers[0], answers[1])]

    def read(self, told):
        one = self.inner[0].read(told)
        other = self.inner[1].read(told)
        return self.inner[place_chosen(self.word, one, other)].read(told)


def each_once(keys):
    once = []
    for key in keys:
        if key not in once:
            once.append(key)
    return once


def tellings(told, key, first, last):
    return [told(key, day) for day in range(first, last + 1)]


def gathered(word, values):
    if word == "sum":
        return sum(values)
    if word == "count":
        return len(values)
    if word == "least":
        return min(values, default=None)
    return max(values, default=None)


def reckoned(word, answers):
    one = answers[0]
    other = answers[1]
    if one is None or other is None:
        return None
    return one + other if word == "plus" else one - other


def place_chosen(word, one, other):
    if word == "same":
        return 2 if one == other else 3
    return 2 if one is not None and other is not None and one < other else 3
