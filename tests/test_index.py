"""Points 61 to 63, with 5, 6 and 8 as far as they speak of the index."""

import copy
import itertools
import random
import unittest

from reckoning import THINGS
from unsaybook import errors
from unsaybook.index import Index

EDGES = (0, 1, 2, 127, 128, 254, 255, 256, 257, 398, 399)
NO_OWNERS = [thing for thing in THINGS if not isinstance(thing, str)] + ["", "x" * 401, "x" * 1000, 0, 1.5]
NO_NAMES = [thing for thing in THINGS if thing not in ("a", "b", "find")] + ["abcdefghi", "a b", "a,b", "a\n", "aA", 7]
NO_DAYS = [*THINGS, 400, 401, "7", [7]]
NO_BOXES = [
    *[thing for thing in THINGS if thing != []], ("a", 0, 1), [["a", 0, 1]], [("a", 0)], [("a", 0, 1, 2)], [()], [("a",)],
    [("A", 0, 1)], [("", 0, 1)], [("abcdefghi", 0, 1)], [(None, 0, 1)], [(0, 0, 1)], [(["a"], 0, 1)], [("a", -1, 1)],
    [("a", 400, 400)], [("a", 0, 400)], [("a", 2, 1)], [("a", 399, 0)], [("a", "0", 1)], [("a", 0, "1")],
    [("a", None, 1)], [("a", 0, None)], [("a", True, 1)], [("a", 0, True)], [("a", False, 1)], [("a", 0, 10 ** 99)],
    [("a", -(10 ** 99), 1)], [("a", [0], 1)], [("a", 0, (1,))], [("a", 0, 1), None], [None, ("a", 0, 1)],
    [("a", 0, 1), ["a", 0, 1]], (("a", 0, 1),), {("a", 0, 1): True}, [{"a": 0}], [("a", 0, 1)] * 401,
    [("a", day, day) for day in range(400)] + [("b", 0, 0)], [("a", 0, 1)] * 400 + [None], "a", [[("a", 0, 1)]],
]


def divisor(number):
    """The greatest power of two that divides it."""
    return max([2 ** power for power in range(10) if number % 2 ** power == 0])


def below(knot):
    step = divisor(knot) // 2
    return (knot - step, knot + step) if divisor(knot) > 1 else ()


# Of each knot, all knots from which one comes up to it.
UNDER = {}
for knot in sorted(range(1, 512), key=divisor):
    UNDER[knot] = {knot}.union(*[UNDER[other] for other in below(knot)])


def knot_of(first, last):
    return max(range(first + 1, last + 2), key=divisor)


class Held(unittest.TestCase):
    """An index, and beside it a dict of the boxes of each owner, which is gone through whole."""

    def setUp(self):
        self.index, self.kept = Index(), {}

    def put(self, owner, boxes):
        self.assertIsNone(self.index.put(owner, boxes))
        self.kept[owner] = list(boxes)

    def take(self, owner):
        self.assertIs(self.index.take(owner), owner in self.kept)
        self.kept.pop(owner, None)

    def there(self, key):
        """The knots of a key that are there."""
        stand = {knot_of(first, last) for boxes in self.kept.values() for about, first, last in boxes if about == key}
        return {knot for knot in UNDER if UNDER[knot] & stand}

    def looked_at(self, there, first, last):
        looked, knots = set(), {256} & there
        while knots:
            looked |= knots
            left = {below(knot)[0] for knot in knots if below(knot) and first + 1 < knot}
            right = {below(knot)[1] for knot in knots if below(knot) and last + 1 > knot}
            knots = (left | right) & there
        return looked

    def meeting(self, key, first, last):
        """The owners that meet the stretch, and how many boxes do."""
        met = [
            owner for owner, boxes in self.kept.items() for about, start, end in boxes
            if about == key and set(range(start, end + 1)) & set(range(first, last + 1))
        ]
        return sorted(set(met)), len(met)

    def check(self, stretches, keys=("a", "b", "c")):
        for key in keys:
            there = self.there(key)
            for first, last in stretches:
                told = self.index.meeting(key, first, last)
                owners, boxes = self.meeting(key, first, last)
                self.assertEqual(told, (owners, len(self.looked_at(there, first, last))), (key, first, last))
                self.assertLessEqual(told[1], 18 + 9 * boxes)
                self.assertEqual([type(told), type(told[0]), type(told[1])], [tuple, list, int])
        self.assertEqual(self.index.owners(), sorted(self.kept))
        for owner, boxes in self.kept.items():
            self.assertEqual(self.index.boxes_of(owner), boxes)

    def state(self):
        owners = self.index.owners()
        edges = itertools.combinations_with_replacement(EDGES, 2)
        met = [self.index.meeting(key, *stretch) for stretch in edges for key in ("a", "b", "c")]
        # A copy, for a list that is not the asker's own would change with what it is held against.
        return copy.deepcopy((owners, [self.index.boxes_of(owner) for owner in owners], met))

    def refused(self, refusal, field, thing, call):
        ahead = self.state()
        with self.assertRaises(errors.UnsayError, msg=repr(thing)) as caught:
            call()
        self.assertIs(type(caught.exception), refusal, repr(thing))
        if field is not None:
            self.assertIs(getattr(caught.exception, field), thing)
        self.assertEqual(self.state(), ahead)


def stretches_of_edges():
    return list(itertools.combinations_with_replacement(EDGES, 2))


def drawn_boxes(draw, count, keys="abc", longest=400):
    boxes = []
    for _ in range(count):
        first = draw.choice((draw.choice(EDGES), draw.randrange(400)))
        boxes.append((draw.choice(keys), first, min(399, first + draw.randrange(longest))))
    return boxes


class Owners(Held):
    def test_without_owners_first(self):
        self.assertEqual(self.index.owners(), [])
        self.assertEqual(self.index.meeting("a", 0, 399), ([], 0))
        self.assertIs(self.index.take("a"), False)

    def test_put_and_put_again_and_taken(self):
        self.put("b", [("a", 0, 5)])
        self.put("a", [("a", 3, 9), ("b", 1, 1)])
        self.check(stretches_of_edges())
        self.put("b", [("b", 0, 0)])
        self.assertEqual(self.index.boxes_of("b"), [("b", 0, 0)])
        self.assertEqual(self.index.meeting("a", 0, 399), (["a"], 6))
        self.check(stretches_of_edges())
        self.take("a")
        self.take("a")
        self.check(stretches_of_edges())
        self.put("a", [])
        self.check(stretches_of_edges())
        self.take("b")
        self.take("a")
        self.check(stretches_of_edges())
        self.assertEqual(self.index.owners(), [])

    def test_rising_as_texts_compare(self):
        owners = ["b", "a", "aa", "Z", "10", "9", " ", "~", "sum a 0 1", "sum a 0 10", "sum a 0 2", "\n", "\t", "x" * 400]
        for owner in owners:
            self.put(owner, [("a", 0, 9)])
        self.assertEqual(self.index.owners(), sorted(owners))
        self.assertEqual(self.index.meeting("a", 9, 9)[0], sorted(owners))

    def test_an_owner_with_no_boxes(self):
        self.put("none", [])
        self.put("some", [("a", 1, 2)])
        self.assertEqual(self.index.owners(), ["none", "some"])
        self.assertEqual(self.index.boxes_of("none"), [])
        self.assertEqual(self.index.meeting("a", 0, 399)[0], ["some"])
        self.assertIs(self.index.take("none"), True)
        self.assertIs(self.index.take("none"), False)

    def test_boxes_alike_and_with_days_in_common(self):
        boxes = [("a", 5, 9), ("a", 5, 9), ("a", 7, 30), ("b", 5, 9), ("a", 0, 399), ("a", 5, 9)]
        self.put("one", boxes)
        self.put("two", boxes[::-1])
        self.assertEqual(self.index.boxes_of("one"), boxes)
        self.assertEqual(self.index.boxes_of("two"), boxes[::-1])
        self.check(stretches_of_edges())
        self.take("one")
        self.check(stretches_of_edges())
        self.put("two", boxes[:2])
        self.check(stretches_of_edges())
        self.put("two", boxes[:1])
        self.check(stretches_of_edges())
        self.take("two")
        self.assertEqual(self.index.meeting("a", 0, 399), ([], 0))

    def test_owners_of_one_and_of_400_signs(self):
        for owner in ("x", "x" * 400, " ", "\n", "x" * 399):
            self.put(owner, [("a", 0, 0)])
        self.check([(0, 0)])

    def test_many_boxes(self):
        self.put("all", [("a", day, day) for day in range(400)])
        self.put("alike", [("b", 0, 399)] * 400)
        self.check([*stretches_of_edges(), (0, 399)])

    def test_keys_of_names(self):
        self.put("x", [("abcdefgh", 1, 2), ("find", 3, 4)])
        self.check([(0, 0), (1, 1), (2, 3), (3, 9), (5, 9), (0, 399)], ("abcdefgh", "find", "a"))


class Meetings(Held):
    def test_an_empty_index(self):
        self.check(stretches_of_edges())

    def test_one_box(self):
        stretches = [*stretches_of_edges(), (6, 6), (3, 4), (100, 200), (300, 300)]
        for first, last in [*stretches_of_edges(), (6, 6), (3, 12), (100, 200), (200, 300)]:
            self.put("x", [("a", first, last)])
            self.check([*stretches, (first, last), (max(first - 1, 0),) * 2, (min(last + 1, 399),) * 2], ("a", "b"))
            self.take("x")

    def test_a_box_on_each_day_met_on_each_day(self):
        for day in range(400):
            self.index.put("x", [("a", day, day)])
            self.assertEqual(self.index.meeting("a", day, day), (["x"], len([k for k in UNDER if day + 1 in UNDER[k]])))

    def test_written_down(self):
        self.put("x", [("a", 0, 0)])
        # 256, 128, 64, 32, 16, 8, 4, 2 and 1 are there.
        for first, last, told in (
            (0, 0, (["x"], 9)), (1, 1, ([], 8)), (2, 2, ([], 8)), (3, 3, ([], 7)), (4, 4, ([], 7)), (127, 127, ([], 2)),
            (126, 126, ([], 3)), (254, 254, ([], 2)), (255, 255, ([], 1)), (256, 399, ([], 1)), (0, 399, (["x"], 9)),
        ):
            self.assertEqual(self.index.meeting("a", first, last), told, (first, last))
        self.put("y", [("a", 255, 256), ("a", 399, 399)])
        # Of 399 there are 256, 384, 448, 416 and 400, which is its own.
        for first, last, told in (
            (255, 255, (["y"], 1)), (256, 256, (["y"], 2)), (399, 399, (["y"], 5)), (398, 398, ([], 5)),
            (0, 399, (["x", "y"], 13)), (257, 398, ([], 5)), (383, 383, ([], 2)), (384, 384, ([], 5)),
        ):
            self.assertEqual(self.index.meeting("a", first, last), told, (first, last))

    def test_drawn_indexes(self):
        draw = random.Random(21)
        for longest in (1, 3, 40, 400):
            self.setUp()
            for step in range(60):
                owner = str(draw.randrange(12))
                if draw.random() < 0.35:
                    self.take(owner)
                else:
                    self.put(owner, drawn_boxes(draw, draw.choice((0, 1, 2, 5, 12)), longest=longest))
                stretches = [sorted([draw.choice(EDGES), draw.randrange(400)]) for _ in range(6)]
                day = draw.randrange(400)
                self.check([(0, 399), (day, day), *draw.sample(stretches_of_edges(), 6), *stretches])
            for owner in list(self.kept):
                self.take(owner)
                self.check([(0, 399), (255, 255), (256, 256), (0, 0), (399, 399)])
            self.assertEqual(self.index.meeting("a", 0, 399), ([], 0))

    def test_many_owners(self):
        draw = random.Random(22)
        for number in range(400):
            self.put(f"value a {number}", drawn_boxes(draw, 6, longest=9))
        self.check([*stretches_of_edges()[::3], (0, 399)])

    def test_all_short_boxes_at_the_middle(self):
        draw = random.Random(23)
        for number in range(40):
            first = draw.randrange(248, 262)
            self.put(str(number), [("a", first, first + draw.randrange(4))])
            self.check([(day, day + long) for day in range(246, 266, 3) for long in (0, 1, 4)], ("a",))


class Refusals(Held):
    def setUp(self):
        Held.setUp(self)
        self.put("x", [("a", 0, 5), ("b", 3, 9)])
        self.put("y", [("a", 255, 256)])
        self.put("a", [])

    def test_what_is_no_owner(self):
        for thing in NO_OWNERS:
            for boxes in ([], [("a", 0, 1)], None, [None], ("a", 0, 1)):
                self.refused(errors.NoName, "name", thing, lambda: self.index.put(thing, boxes))

    def test_what_is_no_list_of_boxes(self):
        for boxes in NO_BOXES:
            for owner in ("x", "new"):
                self.refused(errors.NoBox, None, None, lambda: self.index.put(owner, boxes))

    def test_none_to_400_boxes(self):
        for count in (0, 1, 399, 400):
            self.put("many", [("a", 0, 1)] * count)
            self.assertEqual(len(self.index.boxes_of("many")), count)
        self.refused(errors.NoBox, None, None, lambda: self.index.put("many", [("a", 0, 1)] * 401))

    def test_taking_what_is_no_owner_there(self):
        ahead = self.state()
        for thing in [*NO_OWNERS, "z", "X", "x ", ["x"], ("x",), {"x": 1}, "ax"]:
            self.assertIs(self.index.take(thing), False)
        self.assertEqual(self.state(), ahead)

    def test_boxes_of_what_is_no_owner_there(self):
        for thing in [*NO_OWNERS, "z", "X", "x ", ["x"], ("x",), {"x": 1}]:
            self.refused(errors.NoName, "name", thing, lambda: self.index.boxes_of(thing))
        self.index.take("x")
        self.refused(errors.NoName, "name", "x", lambda: self.index.boxes_of("x"))

    def test_keys_that_are_no_names(self):
        for thing in NO_NAMES:
            for first, last in ((0, 399), (None, None), (5, 4), (400, "x")):
                self.refused(errors.NoName, "name", thing, lambda: self.index.meeting(thing, first, last))

    def test_days_that_are_none(self):
        for thing in NO_DAYS:
            for last in (399, None, thing):
                self.refused(errors.NoDay, "day", thing, lambda: self.index.meeting("a", thing, last))
            self.refused(errors.NoDay, "day", thing, lambda: self.index.meeting("nobody", 0, thing))

    def test_last_less_than_first(self):
        for first, last in ((1, 0), (399, 398), (399, 0), (256, 255)):
            self.refused(errors.NoDay, "day", last, lambda: self.index.meeting("a", first, last))

    def test_a_name_without_boxes_is_met_by_nobody(self):
        self.assertEqual(self.index.meeting("nobody", 0, 399), ([], 0))


class Lists(Held):
    def test_the_handed_in_list_may_be_changed_afterwards(self):
        boxes = [("a", 0, 5)]
        self.index.put("x", boxes)
        self.assertEqual(boxes, [("a", 0, 5)])
        boxes.append(("a", 9, 9))
        boxes[0] = ("b", 0, 0)
        self.assertEqual(self.index.boxes_of("x"), [("a", 0, 5)])
        self.assertEqual(self.index.meeting("a", 0, 9)[0], ["x"])
        self.assertEqual(self.index.meeting("b", 0, 9), ([], 0))
        self.assertIs(self.index.take("x"), True)
        self.assertEqual(self.index.meeting("a", 0, 399), ([], 0))

    def test_one_list_for_several_owners(self):
        boxes = [("a", 0, 5)]
        self.index.put("x", boxes)
        self.index.put("y", boxes)
        boxes.clear()
        self.index.put("z", boxes)
        told = [self.index.boxes_of(owner) for owner in ("x", "y", "z")]
        self.assertEqual(told, [[("a", 0, 5)], [("a", 0, 5)], []])

    def test_told_lists_are_the_askers_own(self):
        self.put("x", [("a", 0, 5), ("a", 7, 7)])
        self.put("y", [("a", 3, 9)])
        ahead = self.state()
        for told in (self.index.owners(), self.index.boxes_of("x"), self.index.meeting("a", 0, 9)[0]):
            told.append("z")
            told.reverse()
            told.clear()
            self.assertEqual(self.state(), ahead)

    def test_two_indexes_have_nothing_in_common(self):
        other = Index()
        self.put("x", [("a", 0, 5)])
        self.assertEqual((other.owners(), other.meeting("a", 0, 399)), ([], ([], 0)))
        other.put("x", [("a", 7, 7)])
        other.take("x")
        self.assertEqual(self.index.boxes_of("x"), [("a", 0, 5)])
        self.check([(0, 399)])

    def test_the_boxes_of_an_owner_put_again(self):
        self.put("x", [("a", 0, 5), ("a", 7, 7)])
        self.put("x", self.index.boxes_of("x")[::-1])
        self.check(stretches_of_edges())

    def test_to_ask_changes_nothing(self):
        self.put("x", [("a", 0, 5)])
        self.assertEqual(self.state(), self.state())


if __name__ == "__main__":
    unittest.main()
