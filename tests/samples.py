"""What several tests share: things of other kinds, boards and games."""

from playboard.boards import Board
from playboard.games import Game

# Hashable and not, equal to numbers and not, with a length and without one.
ODD_THINGS = [
    True, False, None, 0, 1, -1, 7, 10 ** 30, 1.0, "", "a", "ab", "go", "leap", "lost", b"a", [], ["a"], [[]], (), ("a",),
    ((),), {}, {"a": "b"}, set(), {"a"}, frozenset(), range(2), len, object(), 1j,
]


def fields_of(game):
    board = game.board
    parts = (game.kinds, game.rules, game.turns, game.ends, game.stuck)
    return (board.wide, board.high, board.holes) + parts


def hunt():
    """All sorts, aims, turns and ends, on a board with holes."""
    rules = [
        ("k", "leap", "any", 0, 1), ("r", "slide", "any", 1, 0), ("r", "slide", "go", 0, -1), ("p", "leap", "go", 0, 1),
        ("p", "leap", "hit", -1, 1), ("k", "leap", "any", -3, 2), ("m", "jump", "hit", 1, -1), ("p", "leap", "go", 0, 1),
    ]
    turns = [("p", "r"), ("m", "k")]
    ends = [("without", "k"), ("home", "p"), ("without", "k")]
    return Game(Board(4, 3, [7, 0]), ["k", "r", "p", "m"], rules, turns, ends, "lost")


def bare():
    """The least that a game may have."""
    return Game(Board(1, 1, []), ["z"], [], [], [], "even")


def wide_one():
    """The most that a game may have."""
    kinds = ["f", "a", "e", "b", "d", "c"]
    rules = [(kind, "leap", "hit", across, 3) for kind in kinds for across in (-3, 0, 1, 3)]
    turns = [("f", "c"), ("e", "c"), ("a", "d")]
    ends = [("home", kind) for kind in kinds]
    return Game(Board(8, 8, [63, 0, 10, 9]), kinds, rules, turns, ends, "won")


def draughts():
    rules = [("m", "leap", "go", across, 1) for across in (-1, 1)]
    rules += [("m", "jump", "hit", across, 1) for across in (-1, 1)]
    rules += [("d", "slide", "go", across, up) for across in (-1, 1) for up in (-1, 1)]
    rules += [("d", "jump", "hit", across, up) for across in (-1, 1) for up in (-1, 1)]
    return Game(Board(4, 5, []), ["m", "d"], rules, [("m", "d")], [("without", "m")], "lost")


def games():
    return [hunt(), bare(), wide_one(), draughts()]
