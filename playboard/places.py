"""Places: rows of signs, one for each square, and the side that is to move."""

from playboard.rules import is_tuple_of
from playboard.words import is_among

EMPTY = "."
HOLE = "#"


def sign_of(kind, side):
    return kind.upper() if side == 0 else kind


def kind_of(sign):
    return None if sign in (EMPTY, HOLE) else sign.lower()


def side_of(sign):
    if sign in (EMPTY, HOLE):
        return None
    return 0 if sign.isupper() else 1


def empty_row(board):
    return "".join([EMPTY if board.has(square) else HOLE for square in range(board.wide * board.high)])


def put(row, square, sign):
    return row[:square] + sign + row[square + 1:]


def squares_of(row, side):
    return [square for square, sign in enumerate(row) if side_of(sign) == side]


def is_row(game, thing):
    bare = empty_row(game.board)
    if not isinstance(thing, str) or len(thing) != len(bare):
        return False
    signs = [EMPTY] + game.kinds + [sign_of(kind, 0) for kind in game.kinds]
    return all([sign == HOLE if under == HOLE else sign in signs for sign, under in zip(thing, bare)])


def is_place(game, thing):
    return is_tuple_of(thing, 2) and is_row(game, thing[0]) and is_among(thing[1], 0, 1)
