"""The refusals: a class for each, straight under UnsayError, with its field as a value."""


class UnsayError(ValueError):
    pass


class NoKeys(UnsayError):
    pass


class NoKey(UnsayError):
    def __init__(self, key):
        self.key = key


class NoDay(UnsayError):
    def __init__(self, day):
        self.day = day


class NoValue(UnsayError):
    def __init__(self, thing):
        self.thing = thing


class NoFinding(UnsayError):
    def __init__(self, number):
        self.number = number


class Gone(UnsayError):
    def __init__(self, number):
        self.number = number


class NoTurn(UnsayError):
    def __init__(self, turn):
        self.turn = turn


class Full(UnsayError):
    pass


class BadQuestion(UnsayError):
    def __init__(self, place):
        self.place = place


class NoName(UnsayError):
    def __init__(self, name):
        self.name = name


class NoBox(UnsayError):
    pass


class NoGiven(UnsayError):
    def __init__(self, number):
        self.number = number


class NoLine(UnsayError):
    pass
