"""Moves written as texts, and read from them."""

from playboard.errors import NoMove
from playboard.moves import moves
from playboard.reach import NOTHING
from playboard.squares import square_text


def move_text(game, move):
    wide = game.board.wide
    start = square_text(wide, move[0])
    goal = square_text(wide, move[1])
    if move[2] == NOTHING:
        return start + "-" + goal
    if move[2] == move[1]:
        return start + "x" + goal
    return start + "x" + square_text(wide, move[2]) + "-" + goal


def move_of(game, place, text):
    for move in moves(game, place):
        if move_text(game, move) == text:
            return move
    raise NoMove("no move of the place is written so")
