"""Strips: lists of rows (first, last, mark) that rise by their days, no day in two of them."""


def joined(rows):
    strip = []
    # By the first day alone: marks may be None, which has no order.
    for first, last, mark in sorted(rows, key=lambda row: row[0]):
        if strip and goes_on(strip[-1], first, mark):
            strip[-1] = (strip[-1][0], last, mark)
        else:
            strip.append((first, last, mark))
    return strip


def goes_on(row, first, mark):
    return row[1] + 1 == first and row[2] == mark


def mark_on(strip, day):
    for first, last, mark in strip:
        if first <= day <= last:
            return mark
    return None


def cut(strip, first, last):
    rows = []
    for start, end, mark in strip:
        if start <= last and first <= end:
            rows.append((max(start, first), min(end, last), mark))
    return joined(rows)


def filled(strip, first, last):
    rows = []
    day = first
    for start, end, mark in cut(strip, first, last):
        if day < start:
            rows.append((day, start - 1, None))
        rows.append((start, end, mark))
        day = end + 1
    if day <= last:
        rows.append((day, last, None))
    # A filled gap may lie beside a row whose own mark is None.
    return joined(rows)


def laid(strip, first, last, mark):
    return joined(around(strip, first, last) + [(first, last, mark)])


def around(rows, first, last):
    kept = []
    for start, end, mark in rows:
        if start < first:
            kept.append((start, min(end, first - 1), mark))
        if last < end:
            kept.append((max(start, last + 1), end, mark))
    return kept


def side_by_side(one, other, first, last):
    # Both filled strips are tidy, so at each row's end one of the two marks changes: no row can be spared.
    rows = []
    for start, end, mark in filled(one, first, last):
        for beside_start, beside_end, beside in filled(other, start, end):
            rows.append((beside_start, beside_end, mark, beside))
    return rows
