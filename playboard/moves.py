"""Moves: those of a place, and the places behind them."""

from playboard.errors import NoMove
from playboard.places import EMPTY, kind_of, put, sign_of, squares_of
from playboard.reach import NOTHING, goals
from playboard.squares import row_of


def moves(game, place):
    row = place[0]
    found = []
    for start in squares_of(row, place[1]):
        found.extend([(start, pair[0], pair[1]) for pair in goals(game, row, start)])
    return found


def arrived(game, sign, side, goal):
    if row_of(game.board.wide, goal) != game.board.far_row(side):
        return sign
    return sign_of(game.turned(kind_of(sign)), side)


def behind(game, place, move):
    side = place[1]
    start = move[0]
    goal = move[1]
    taken = move[2]
    sign = arrived(game, place[0][start], side, goal)
    row = put(place[0], start, EMPTY)
    # Ahead of the goal, which may be the same square.
    if taken != NOTHING:
        row = put(row, taken, EMPTY)
    return (put(row, goal, sign), 1 - side)


def done(game, place, move):
    if move not in moves(game, place):
        raise NoMove("that is none of the place's moves")
    return behind(game, place, move)
