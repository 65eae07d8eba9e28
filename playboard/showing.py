"""Places shown as lines, and read from them."""

from playboard.errors import BadPlace
from playboard.places import is_place

SIDE_WORDS = ("first", "second")


def shown(game, place):
    wide = game.board.wide
    row = place[0]
    lines = [row[start:start + wide] for start in range(0, len(row), wide)]
    return list(reversed(lines)) + [SIDE_WORDS[place[1]]]


def place_of(game, lines):
    if not lines or lines[-1] not in SIDE_WORDS:
        raise BadPlace("the last line says first or second")
    place = ("".join(reversed(lines[:-1])), SIDE_WORDS.index(lines[-1]))
    # Shown again, since lines of other lengths may join to a right row.
    if not is_place(game, place) or shown(game, place) != lines:
        raise BadPlace("no place of the game is shown so")
    return place
