"""Two turns of a book held against one another: boxes (key, first, last, one, other)."""

from unsaybook.strips import around, joined, side_by_side
from unsaybook.words import LAST_DAY


def unlike(book, one, other):
    boxes = []
    for key in book.all_keys():
        # The table of the first turn is asked for first, and so its turn is refused first.
        table = book.table(key, one)
        for first, last, speaker, beside in side_by_side(table, book.table(key, other), 0, LAST_DAY):
            if speaker != beside:
                boxes.append((key, first, last, speaker, beside))
    return boxes


def unlike_values(book, one, other):
    boxes = []
    for key, first, last, speaker, beside in unlike(book, one, other):
        value = value_of(book, speaker)
        value_beside = value_of(book, beside)
        if value != value_beside:
            put_behind(boxes, (key, first, last, value, value_beside))
    return boxes


def value_of(book, number):
    return None if number is None else book.found(number)[3]


def put_behind(boxes, box):
    # Unlike speakers may have told the same values: then two boxes of speakers are one of values.
    if boxes and goes_on(boxes[-1], box):
        boxes[-1] = boxes[-1][:2] + box[2:]
    else:
        boxes.append(box)


def goes_on(box, behind):
    return box[0] == behind[0] and box[2] + 1 == behind[1] and box[3:] == behind[3:]


def read_with(strip, boxes):
    rows = list(strip)
    for key, first, last, one, other in boxes:
        rows = around(rows, first, last)
        if other is not None:
            rows.append((first, last, other))
    return joined(rows)
