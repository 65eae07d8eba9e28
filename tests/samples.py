"""What several tests share: things of other kinds, games, places, and moves told in another way."""

import random

from playboard.boards import Board
from playboard.games import Game

# Hashable and not, equal to numbers and not, with a length and without one.
ODD_THINGS = [
    True, False, None, 0, 1, -1, 7, 10 ** 30, 1.0, "", "a", "ab", "go", "leap", "lost", b"a", [], ["a"], [[]], (), ("a",),
    ((),), {}, {"a": "b"}, set(), {"a"}, frozenset(), range(2), len, object(), 1j,
]


def fields_of(game):
    board = game.board
    parts = (game.kinds, game.rules, game.turns, game.ends, game.stuck)
    return (board.wide, board.high, board.holes) + parts


def hunt():
    """All sorts, aims, turns and ends, on a board with holes."""
    rules = [
        ("k", "leap", "any", 0, 1), ("r", "slide", "any", 1, 0), ("r", "slide", "go", 0, -1), ("p", "leap", "go", 0, 1),
        ("p", "leap", "hit", -1, 1), ("k", "leap", "any", -3, 2), ("m", "jump", "hit", 1, -1), ("p", "leap", "go", 0, 1),
    ]
    turns = [("p", "r"), ("m", "k")]
    ends = [("without", "k"), ("home", "p"), ("without", "k")]
    return Game(Board(4, 3, [7, 0]), ["k", "r", "p", "m"], rules, turns, ends, "lost")


def bare():
    """The least that a game may have."""
    return Game(Board(1, 1, []), ["z"], [], [], [], "even")


def wide_one():
    """The most that a game may have."""
    kinds = ["f", "a", "e", "b", "d", "c"]
    rules = [(kind, "leap", "hit", across, 3) for kind in kinds for across in (-3, 0, 1, 3)]
    turns = [("f", "c"), ("e", "c"), ("a", "d")]
    ends = [("home", kind) for kind in kinds]
    return Game(Board(8, 8, [63, 0, 10, 9]), kinds, rules, turns, ends, "won")


def draughts():
    rules = [("m", "leap", "go", across, 1) for across in (-1, 1)]
    rules += [("m", "jump", "hit", across, 1) for across in (-1, 1)]
    rules += [("d", "slide", "go", across, up) for across in (-1, 1) for up in (-1, 1)]
    rules += [("d", "jump", "hit", across, up) for across in (-1, 1) for up in (-1, 1)]
    return Game(Board(4, 5, []), ["m", "d"], rules, [("m", "d")], [("without", "m")], "lost")


def riders():
    """Each sort by each aim, of kinds of their own, and one with no rule."""
    rules = [("g", "leap", "go", 2, 1), ("h", "leap", "hit", 2, 1), ("n", "leap", "any", 2, 1)]
    rules += [("g", "slide", "go", 1, 1), ("h", "slide", "hit", 1, 1), ("n", "slide", "any", 1, 1)]
    rules += [("j", "jump", "hit", 0, 1), ("j", "jump", "hit", -1, 1), ("j", "leap", "go", 0, 1), ("n", "jump", "hit", 1, 1)]
    return Game(Board(5, 5, [12, 3]), ["g", "h", "n", "j", "s"], rules, [("j", "s"), ("g", "n")], [], "even")


def strip():
    """One row alone, which is the far row of either side."""
    rules = [("a", "slide", "any", 1, 0), ("a", "leap", "any", -1, 0), ("b", "jump", "hit", -1, 0)]
    return Game(Board(6, 1, [5]), ["a", "b"], rules, [("a", "b")], [("without", "a")], "lost")


def games():
    return [hunt(), bare(), wide_one(), draughts(), riders(), strip()]


def places(game, many):
    """Places from empty to full, the same ones each time."""
    chance = random.Random(many)
    signs = "".join(game.kinds) + "".join(game.kinds).upper()
    told = []
    for number in range(many):
        row = ""
        for square in range(game.board.wide * game.board.high):
            sign = chance.choice(signs) if chance.random() * many < number else "."
            row += "#" if square in game.board.holes else sign
        told.append((row, number % 2))
    return told


def stands(game, row, column, line):
    """What stands there: its sign, "#" off the board too."""
    wide, high = game.board.wide, game.board.high
    return row[line * wide + column] if column in range(wide) and line in range(high) else "#"


def pairs_by_columns(game, row, square):
    """Goals and taken squares told by columns and rows, step by step."""
    wide = game.board.wide
    mine = row[square]
    foes = str.islower if mine.isupper() else str.isupper
    pairs = set()
    for kind, sort, aim, across, up in game.rules:
        if kind != mine.lower():
            continue
        step = up if mine.isupper() else -up
        for far in range(1, 9 if sort == "slide" else 2):
            column, line = square % wide + far * across, square // wide + far * step
            there, goal = stands(game, row, column, line), line * wide + column
            beyond = (column + across, line + step)
            if sort == "jump":
                if foes(there) and stands(game, row, *beyond) == ".":
                    pairs.add((beyond[1] * wide + beyond[0], goal))
            elif there == "." and aim in ("go", "any"):
                pairs.add((goal, -1))
            elif foes(there) and aim in ("hit", "any"):
                pairs.add((goal, goal))
            if there != ".":
                break
    return sorted(pairs)


def moves_by_columns(game, place):
    row, side = place
    mine = str.isupper if side == 0 else str.islower
    starts = [square for square in range(len(row)) if mine(row[square])]
    return [(start,) + pair for start in starts for pair in pairs_by_columns(game, row, start)]
