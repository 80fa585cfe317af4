"""Whole numbers, days, names, and numbers that are written plainly."""

LETTERS = "abcdefghijklmnopqrstuvwxyz"
FIGURES = "0123456789"
MOST_LETTERS = 8
MOST_FIGURES = 12
LAST_DAY = 399


def is_whole(thing, low, high):
    # A truth is an int to Python, but no whole number here.
    return isinstance(thing, int) and not isinstance(thing, bool) and low <= thing <= high


def is_day(thing):
    return is_whole(thing, 0, LAST_DAY)


def is_name(thing):
    return isinstance(thing, str) and has_only(thing, LETTERS, MOST_LETTERS)


def number_of(text, low, high):
    figures = text[1:] if text.startswith("-") else text
    if not has_only(figures, FIGURES, MOST_FIGURES):
        return None
    # The whole text is compared, so that `-0` is refused with `07`.
    if figures.startswith("0") and text != "0":
        return None
    number = int(text)
    return number if low <= number <= high else None


def has_only(text, signs, most):
    return 1 <= len(text) <= most and all([sign in signs for sign in text])
