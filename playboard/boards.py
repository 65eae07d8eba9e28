"""Boards: columns and rows of squares, some of which may be holes."""

from playboard.errors import BadBoard
from playboard.squares import column_of, row_of, square_at
from playboard.words import is_among

LONGEST = 8


def are_holes(thing, many):
    if not isinstance(thing, list) or len(thing) >= many:
        return False
    # Ahead of the set: things of some kinds can't be in one, and True would be taken for 1.
    if not all([is_among(hole, 0, many - 1) for hole in thing]):
        return False
    return len(set(thing)) == len(thing)


class Board:
    def __init__(self, wide, high, holes):
        if not is_among(wide, 1, LONGEST) or not is_among(high, 1, LONGEST):
            raise BadBoard("a board has 1 to 8 columns and 1 to 8 rows")
        if not are_holes(holes, wide * high):
            raise BadBoard("holes are a list of different squares of the board, not of all")
        self.wide = wide
        self.high = high
        self.holes = sorted(holes)
        # By squares, whether one can stand there: asked far more often than holes are.
        self.firm = [square not in self.holes for square in range(wide * high)]

    def has(self, square):
        return is_among(square, 0, len(self.firm) - 1) and self.firm[square]

    def squares(self):
        return [square for square, firm in enumerate(self.firm) if firm]

    def moved(self, square, across, up):
        column = column_of(self.wide, square) + across
        row = row_of(self.wide, square) + up
        if not 0 <= column < self.wide or not 0 <= row < self.high:
            return None
        goal = square_at(self.wide, column, row)
        return goal if self.firm[goal] else None

    def far_row(self, side):
        return self.high - 1 if side == 0 else 0
