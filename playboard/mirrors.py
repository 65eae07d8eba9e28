"""Games and places turned about: their columns exchanged, or their rows and sides."""

from playboard.boards import Board
from playboard.games import Game
from playboard.places import kind_of, side_of, sign_of
from playboard.squares import column_of, row_of, square_at


def mirrored_square(board, square):
    column = board.wide - 1 - column_of(board.wide, square)
    return square_at(board.wide, column, row_of(board.wide, square))


def swapped_square(board, square):
    row = board.high - 1 - row_of(board.wide, square)
    return square_at(board.wide, column_of(board.wide, square), row)


def mirrored(game):
    board = game.board
    holes = [mirrored_square(board, hole) for hole in board.holes]
    rules = [(rule[0], rule[1], rule[2], -rule[3], rule[4]) for rule in game.rules]
    return Game(Board(board.wide, board.high, holes), game.kinds, rules, game.turns, game.ends, game.stuck)


def swapped(game):
    board = game.board
    holes = [swapped_square(board, hole) for hole in board.holes]
    # The rules stay: up is seen from the side that moves.
    return Game(Board(board.wide, board.high, holes), game.kinds, game.rules, game.turns, game.ends, game.stuck)


def of_other_side(sign):
    side = side_of(sign)
    return sign if side is None else sign_of(kind_of(sign), 1 - side)


def mirrored_place(game, place):
    row = place[0]
    signs = [row[mirrored_square(game.board, square)] for square in range(len(row))]
    return ("".join(signs), place[1])


def swapped_place(game, place):
    row = place[0]
    signs = [of_other_side(row[swapped_square(game.board, square)]) for square in range(len(row))]
    return ("".join(signs), 1 - place[1])
