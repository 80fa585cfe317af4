"""A book of findings: what was entered, what was withdrawn, and who speaks as known at which turn."""

from unsaybook.errors import Full, Gone, NoDay, NoFinding, NoKey, NoKeys, NoTurn, NoValue
from unsaybook.strips import laid, mark_on
from unsaybook.words import LAST_DAY, is_day, is_name, is_whole

MOST_KEYS = 8
MOST_DEEDS = 60
MOST_VALUE = 1000000000


class Book:
    def __init__(self, keys):
        if not are_keys(keys):
            raise NoKeys()
        self.names = list(keys)
        # Of each finding its key, first, last and value, and the turn of its entering.
        self.findings = []
        # By the number of a finding, the turn of its withdrawal.
        self.withdrawals = {}
        self.deeds = []
        # For each turn so far the tables of all keys: they stay, whatever is done later.
        self.tables = [dict([(key, []) for key in keys])]

    def all_keys(self):
        return list(self.names)

    def now(self):
        return len(self.deeds)

    def find(self, key, first, last, value):
        self.check_key(key)
        check_stretch(first, last)
        if not is_whole(value, -MOST_VALUE, MOST_VALUE):
            raise NoValue(value)
        self.check_room()
        number = len(self.findings)
        self.findings.append((key, first, last, value, self.now() + 1))
        self.take_deed("find", number, laid(self.table(key), first, last, number))
        return number

    def withdraw(self, number):
        self.check_number(number)
        if number in self.withdrawals:
            raise Gone(number)
        self.check_room()
        self.withdrawals[number] = self.now() + 1
        self.take_deed("withdraw", number, self.table_of_known(self.findings[number][0]))

    def deed_at(self, turn):
        if not is_whole(turn, 1, self.now()):
            raise NoTurn(turn)
        return self.deeds[turn - 1]

    def found(self, number):
        self.check_number(number)
        return self.findings[number] + (self.withdrawals.get(number),)

    def speaks(self, key, day, turn=None):
        self.check_key(key)
        if not is_day(day):
            raise NoDay(day)
        return mark_on(self.tables[self.turn_meant(turn)][key], day)

    def value(self, key, day, turn=None):
        number = self.speaks(key, day, turn)
        return None if number is None else self.findings[number][3]

    def table(self, key, turn=None):
        self.check_key(key)
        return list(self.tables[self.turn_meant(turn)][key])

    def check_key(self, key):
        if key not in self.names:
            raise NoKey(key)

    def check_number(self, number):
        if not is_whole(number, 0, len(self.findings) - 1):
            raise NoFinding(number)

    def check_room(self):
        if self.now() >= MOST_DEEDS:
            raise Full()

    def turn_meant(self, turn):
        if turn is None:
            return self.now()
        if not is_whole(turn, 0, self.now()):
            raise NoTurn(turn)
        return turn

    def table_of_known(self, key):
        strip = []
        for number, finding in enumerate(self.findings):
            if finding[0] == key and number not in self.withdrawals:
                strip = laid(strip, finding[1], finding[2], number)
        return strip

    def take_deed(self, word, number, strip):
        tables = dict(self.tables[-1])
        tables[self.findings[number][0]] = strip
        self.tables.append(tables)
        self.deeds.append((word, number))


def are_keys(thing):
    if not isinstance(thing, list) or not 1 <= len(thing) <= MOST_KEYS:
        return False
    # Names first: other things may be of kinds that a set cannot hold.
    return all([is_name(key) for key in thing]) and len(set(thing)) == len(thing)


def check_stretch(first, last):
    if not is_day(first):
        raise NoDay(first)
    if not is_whole(last, first, LAST_DAY):
        raise NoDay(last)
