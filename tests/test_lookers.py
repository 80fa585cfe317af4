"""Point 91, and what point 9 says of those who look."""

import copy
import random
import unittest

from reckoning import SCRIPTS, THINGS, drawn_text
from unsaybook import errors
from unsaybook.ledger import Ledger
from unsaybook.lookers import Lookers

NO_NAMES = [thing for thing in THINGS if thing not in ("a", "b", "find")] + [
    "abcdefghi", "Ann", "a b", "ann ", " ann", "ann\n", "a,b", "a1", 7, ["ann"], ("ann",), {"ann": 1},
]


def do(ledger, deed):
    if isinstance(deed, tuple):
        ledger.find(*deed)
    else:
        ledger.withdraw(deed)


def state(ledger):
    return copy.deepcopy((ledger.now(), ledger.unsaid(), ledger.table("a")))


class Watch:
    """What each name was told as unsaid at its last look, by the words of the document."""

    def __init__(self, ledger):
        self.ledger, self.last = ledger, {}

    def look(self, who):
        present = {row[0]: True for row in self.ledger.unsaid() if self.ledger.given(row[0])[0] == who}
        lines = []
        for number in range(41):
            was = self.last.get((who, number), False)
            if number in present and not was:
                lines.append((number, "unsaid"))
            if number not in present and was:
                lines.append((number, "said again"))
            self.last[who, number] = number in present
        return lines


class Looks(unittest.TestCase):
    def setUp(self):
        self.ledger = Ledger(["a", "b"])
        self.lookers = Lookers(self.ledger)

    def look(self, who, *lines):
        told = self.lookers.look(who)
        self.assertEqual(told, list(lines))
        self.assertIs(type(told), list)
        self.assertTrue(all([type(line) is tuple for line in told]))

    def test_unsaid_and_said_again(self):
        self.ledger.find("a", 0, 9, 5)
        self.ledger.give("ann", "value a 3")
        self.look("ann")
        self.ledger.find("a", 3, 3, 6)
        self.look("ann", (0, "unsaid"))
        self.look("ann")
        self.ledger.find("a", 3, 3, 7)
        self.look("ann")
        self.ledger.withdraw(2)
        self.look("ann")
        self.ledger.withdraw(1)
        self.look("ann", (0, "said again"))
        self.look("ann")
        self.ledger.withdraw(0)
        self.look("ann", (0, "unsaid"))

    def test_unsaid_and_said_again_between_two_looks(self):
        self.ledger.give("ann", "value a 3")
        self.look("ann")
        self.ledger.find("a", 3, 3, 6)
        self.ledger.withdraw(0)
        self.look("ann")
        self.ledger.find("a", 3, 3, 6)
        self.look("ann", (0, "unsaid"))
        self.ledger.withdraw(1)
        self.ledger.find("a", 3, 3, 8)
        # Unsaid at both looks, though said again between, and by another deed.
        self.look("ann")

    def test_who_has_not_looked_yet(self):
        self.ledger.give("ann", "value a 3")
        self.ledger.give("ann", "value a 4")
        self.ledger.find("a", 3, 3, 6)
        self.look("ann", (0, "unsaid"))

    def test_given_behind_the_last_look(self):
        self.ledger.find("a", 0, 9, 5)
        self.look("ann")
        self.ledger.give("ann", "value a 3")
        self.ledger.give("ann", "value a 4")
        self.ledger.find("a", 3, 3, 6)
        self.ledger.give("ann", "value a 3")
        self.look("ann", (0, "unsaid"))
        self.ledger.find("a", 0, 9, 5)
        self.look("ann", (0, "said again"), (2, "unsaid"))

    def test_several_lines_rise_by_number(self):
        for day in (5, 3, 4, 1):
            self.ledger.give("ann", f"value a {day}")
        self.ledger.find("a", 0, 4, 1)
        self.look("ann", (1, "unsaid"), (2, "unsaid"), (3, "unsaid"))
        self.ledger.find("a", 5, 5, 1)
        self.ledger.withdraw(0)
        self.look("ann", (0, "unsaid"), (1, "said again"), (2, "said again"), (3, "said again"))

    def test_each_name_has_its_own(self):
        self.ledger.give("ann", "value a 3")
        self.ledger.give("bob", "value a 3")
        self.ledger.give("bob", "value b 3")
        self.ledger.find("a", 3, 3, 1)
        self.look("bob", (1, "unsaid"))
        self.ledger.find("b", 3, 3, 1)
        self.look("ann", (0, "unsaid"))
        self.look("bob", (2, "unsaid"))
        self.look("cleo")
        self.ledger.withdraw(0)
        self.look("ann", (0, "said again"))
        self.look("bob", (1, "said again"))

    def test_names_without_answers(self):
        self.look("ann")
        self.ledger.give("bob", "value a 3")
        self.ledger.find("a", 3, 3, 1)
        self.look("ann")
        self.look("a")
        self.ledger.give("ann", "value a 3")
        self.look("ann")
        self.ledger.withdraw(0)
        self.look("ann", (1, "unsaid"))

    def test_keys_and_names_are_not_the_same(self):
        self.ledger.give("a", "value b 3")
        self.ledger.find("b", 3, 3, 1)
        self.look("b")
        self.look("a", (0, "unsaid"))

    def test_two_lookers_over_one_ledger(self):
        other = Lookers(self.ledger)
        self.ledger.give("ann", "value a 3")
        self.ledger.find("a", 3, 3, 1)
        self.look("ann", (0, "unsaid"))
        self.look("ann")
        self.assertEqual(other.look("ann"), [(0, "unsaid")])
        self.ledger.withdraw(0)
        self.assertEqual(other.look("ann"), [(0, "said again")])
        self.ledger.find("a", 3, 3, 1)
        self.look("ann")
        self.assertEqual(other.look("ann"), [(0, "unsaid")])

    def test_lookers_made_late(self):
        self.ledger.give("ann", "value a 3")
        self.ledger.find("a", 3, 3, 1)
        self.look("ann", (0, "unsaid"))
        late = Lookers(self.ledger)
        self.ledger.give("ann", "value a 4")
        self.assertEqual(late.look("ann"), [(0, "unsaid")])
        self.ledger.withdraw(0)
        self.assertEqual(Lookers(self.ledger).look("ann"), [])
        self.assertEqual(late.look("ann"), [(0, "said again")])

    def test_two_ledgers(self):
        ledger = Ledger(["a"])
        lookers = Lookers(ledger)
        for told in (self.ledger, ledger):
            told.give("ann", "value a 3")
        ledger.find("a", 3, 3, 1)
        self.look("ann")
        self.assertEqual(lookers.look("ann"), [(0, "unsaid")])

    def test_what_is_no_name(self):
        self.ledger.give("ann", "value a 3")
        self.look("ann")
        self.ledger.find("a", 3, 3, 1)
        ahead = state(self.ledger)
        for thing in NO_NAMES:
            with self.assertRaises(errors.UnsayError, msg=repr(thing)) as caught:
                self.lookers.look(thing)
            self.assertIs(type(caught.exception), errors.NoName, repr(thing))
            self.assertIs(caught.exception.name, thing)
        self.assertEqual(state(self.ledger), ahead)
        self.look("ann", (0, "unsaid"))

    def test_told_lists_are_the_askers_own(self):
        self.ledger.give("ann", "value a 3")
        self.ledger.give("ann", "value a 4")
        self.ledger.find("a", 3, 4, 1)
        self.lookers.look("ann").clear()
        self.look("ann")
        self.ledger.withdraw(0)
        self.lookers.look("ann").append((1, "unsaid"))
        self.look("ann")

    def test_a_look_changes_nothing_in_the_ledger(self):
        self.ledger.give("ann", "value a 3")
        self.ledger.find("a", 3, 3, 1)
        ahead = state(self.ledger)
        self.look("ann", (0, "unsaid"))
        self.look("ann")
        self.assertEqual(state(self.ledger), ahead)

    def test_every_script_with_looks_between(self):
        lines = 0
        for seed, (keys, script) in enumerate(SCRIPTS):
            draw = random.Random(seed + 400)
            ledger = Ledger(list(keys))
            pairs = [(Lookers(ledger), Watch(ledger))]
            given = 0
            for place, deed in enumerate(script):
                if given < 40 and draw.random() < 0.9:
                    ledger.give(draw.choice(("ann", "bob", "a")), drawn_text(draw, keys, draw.choice((0, 0, 0, 1))))
                    given += 1
                do(ledger, deed)
                if place in (0, 5):
                    pairs.append((Lookers(ledger), Watch(ledger)))
                for lookers, watch in pairs:
                    for who in draw.sample(("ann", "bob", "a", "cleo"), draw.randrange(4)):
                        told = lookers.look(who)
                        self.assertEqual(told, watch.look(who))
                        lines += len(told)
        self.assertGreater(lines, 100)


if __name__ == "__main__":
    unittest.main()
