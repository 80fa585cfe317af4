"""An index: boxes (key, first, last) of owners, which stand at the knots of a tree for each key."""

from unsaybook.errors import NoBox, NoName
from unsaybook.findings import check_stretch
from unsaybook.words import LAST_DAY, is_day, is_name, is_whole

TOP = 256
MOST_SIGNS = 400
MOST_BOXES = 400


class Index:
    def __init__(self):
        # By owner, its boxes as they were put.
        self.placed = {}
        # By key and knot, a row (owner, first, last) for each box that stands there.
        self.standing = {}
        # By key and knot, how many boxes stand there or anywhere below: a knot is there where it has some.
        self.weights = {}

    def put(self, owner, boxes):
        if not is_owner(owner):
            raise NoName(owner)
        if not are_boxes(boxes):
            raise NoBox()
        self.put_all(owner, boxes)

    def take(self, owner):
        if not self.has(owner):
            return False
        boxes = self.placed.pop(owner)
        for key, first, last in boxes:
            self.remove_box(owner, key, first, last)
        return True

    def owners(self):
        return sorted(self.placed)

    def boxes_of(self, owner):
        if not self.has(owner):
            raise NoName(owner)
        return list(self.placed[owner])

    def meeting(self, key, first, last):
        if not is_name(key):
            raise NoName(key)
        check_stretch(first, last)
        looked = self.looked_at(key, first, last)
        owners = {}
        for knot in looked:
            for owner, start, end in self.standing.get((key, knot), []):
                if start <= last and first <= end:
                    owners[owner] = True
        return (sorted(owners), len(looked))

    def put_all(self, owner, boxes):
        self.take(owner)
        self.placed[owner] = list(boxes)
        for key, first, last in boxes:
            self.place_box(owner, key, first, last)

    def has(self, owner):
        # Other things may be of kinds that a dict cannot be asked for.
        return isinstance(owner, str) and owner in self.placed

    def place_box(self, owner, key, first, last):
        way = way_to(first, last)
        for knot in way:
            self.weights[(key, knot)] = self.weights.get((key, knot), 0) + 1
        self.standing.setdefault((key, way[-1]), []).append((owner, first, last))

    def remove_box(self, owner, key, first, last):
        way = way_to(first, last)
        for knot in way:
            self.weights[(key, knot)] -= 1
            if self.weights[(key, knot)] == 0:
                self.weights.pop((key, knot))
        rows = self.standing[(key, way[-1])]
        rows.remove((owner, first, last))
        if not rows:
            self.standing.pop((key, way[-1]))

    def looked_at(self, key, first, last):
        looked = []
        waiting = [TOP]
        while waiting:
            knot = waiting.pop()
            if (key, knot) in self.weights:
                looked.append(knot)
                waiting.extend(knots_below(knot, first, last))
        return looked


def is_owner(thing):
    return isinstance(thing, str) and 1 <= len(thing) <= MOST_SIGNS


def are_boxes(thing):
    return isinstance(thing, list) and len(thing) <= MOST_BOXES and all([is_box(box) for box in thing])


def is_box(thing):
    if not isinstance(thing, tuple) or len(thing) != 3:
        return False
    return is_name(thing[0]) and is_day(thing[1]) and is_whole(thing[2], thing[1], LAST_DAY)


def way_to(first, last):
    # From the top down to the first knot within the box: of those within, the greatest power of two divides it.
    way = [TOP]
    while not first + 1 <= way[-1] <= last + 1:
        way.extend(knots_below(way[-1], first, last))
    return way


def knots_below(knot, first, last):
    # Those of the two below, none below an odd one, on whose side the stretch has days.
    step = (knot & -knot) // 2
    below = []
    if step > 0 and first + 1 < knot:
        below.append(knot - step)
    if step > 0 and last + 1 > knot:
        below.append(knot + step)
    return below
