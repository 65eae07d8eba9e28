"""Whole numbers and letters: what is one, and how numbers are written and read."""

FIGURES = "0123456789"
MOST_FIGURES = 9


def is_whole(thing):
    # Python counts True and False among the ints; here they are no numbers.
    return isinstance(thing, int) and not isinstance(thing, bool)


def is_letter(thing):
    return isinstance(thing, str) and len(thing) == 1 and "a" <= thing <= "z"


def is_among(thing, least, most):
    return is_whole(thing) and least <= thing <= most


def number_text(number):
    if number < 0:
        return "-" + number_text(-number)
    # Written in groups, since str refuses numbers of some thousand figures.
    group = 10 ** 60
    groups = []
    left = number
    while left >= group:
        groups.append(str(left % group).zfill(60))
        left = left // group
    groups.append(str(left))
    return "".join(reversed(groups))


def number_of(text):
    figures = text[1:] if text.startswith("-") else text
    if not 1 <= len(figures) <= MOST_FIGURES:
        return None
    # Asked sign by sign: int and isdigit let other signs pass too.
    if not all([sign in FIGURES for sign in figures]):
        return None
    if figures.startswith("0") and text != "0":
        return None
    return int(text)
