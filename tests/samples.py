"""What several tests share: things of other kinds, games, places, and moves told in another way."""

import random

from playboard.boards import Board
from playboard.games import Game

# Hashable and not, equal to numbers and not, with a length and without one.
ODD_THINGS = [
    True, False, None, 0, 1, -1, 7, 10 ** 30, 1.0, "", "a", "ab", "go", "leap", "lost", b"a", [], ["a"], [[]], (), ("a",),
    ((),), {}, {"a": "b"}, set(), {"a"}, frozenset(), range(2), len, object(), 1j,
]


def fields_of(game):
    board = game.board
    parts = (game.kinds, game.rules, game.turns, game.ends, game.stuck)
    return (board.wide, board.high, board.holes) + parts


def hunt():
    """All sorts, aims, turns and ends, on a board with holes."""
    rules = [
        ("k", "leap", "any", 0, 1), ("r", "slide", "any", 1, 0), ("r", "slide", "go", 0, -1), ("p", "leap", "go", 0, 1),
        ("p", "leap", "hit", -1, 1), ("k", "leap", "any", -3, 2), ("m", "jump", "hit", 1, -1), ("p", "leap", "go", 0, 1),
    ]
    turns = [("p", "r"), ("m", "k")]
    ends = [("without", "k"), ("home", "p"), ("without", "k")]
    return Game(Board(4, 3, [7, 0]), ["k", "r", "p", "m"], rules, turns, ends, "lost")


def bare():
    """The least that a game may have."""
    return Game(Board(1, 1, []), ["z"], [], [], [], "even")


def wide_one():
    """The most that a game may have."""
    kinds = ["f", "a", "e", "b", "d", "c"]
    rules = [(kind, "leap", "hit", across, 3) for kind in kinds for across in (-3, 0, 1, 3)]
    turns = [("f", "c"), ("e", "c"), ("a", "d")]
    ends = [("home", kind) for kind in kinds]
    return Game(Board(8, 8, [63, 0, 10, 9]), kinds, rules, turns, ends, "won")


def draughts():
    rules = [("m", "leap", "go", across, 1) for across in (-1, 1)]
    rules += [("m", "jump", "hit", across, 1) for across in (-1, 1)]
    rules += [("d", "slide", "go", across, up) for across in (-1, 1) for up in (-1, 1)]
    rules += [("d", "jump", "hit", across, up) for across in (-1, 1) for up in (-1, 1)]
    return Game(Board(4, 5, []), ["m", "d"], rules, [("m", "d")], [("without", "m")], "lost")


def riders():
    """Each sort by each aim, of kinds of their own, and one with no rule."""
    rules = [("g", "leap", "go", 2, 1), ("h", "leap", "hit", 2, 1), ("n", "leap", "any", 2, 1)]
    rules += [("g", "slide", "go", 1, 1), ("h", "slide", "hit", 1, 1), ("n", "slide", "any", 1, 1)]
    rules += [("j", "jump", "hit", 0, 1), ("j", "jump", "hit", -1, 1), ("j", "leap", "go", 0, 1), ("n", "jump", "hit", 1, 1)]
    return Game(Board(5, 5, [12, 3]), ["g", "h", "n", "j", "s"], rules, [("j", "s"), ("g", "n")], [], "even")


def strip():
    """One row alone, which is the far row of either side."""
    rules = [("a", "slide", "any", 1, 0), ("a", "leap", "any", -1, 0), ("b", "jump", "hit", -1, 0)]
    return Game(Board(6, 1, [5]), ["a", "b"], rules, [("a", "b")], [("without", "a")], "lost")


def games():
    return [hunt(), bare(), wide_one(), draughts(), riders(), strip()]


STEPS = [(across, up) for across in (-1, 0, 1) for up in (-1, 0, 1) if (across, up) != (0, 0)]


def chase():
    """Wins that take many moves, and places that are even: who takes the k has won."""
    rules = [("k", "leap", "any", across, up) for across, up in STEPS]
    rules += [("r", "slide", "any", across, up) for across, up in STEPS if across * up == 0]
    return Game(Board(4, 3, []), ["k", "r"], rules, [], [("without", "k")], "even")


def race():
    """No move goes back, so nothing is even: who first turns a piece has won."""
    rules = [("p", "leap", "go", 0, 1), ("p", "leap", "hit", 1, 1), ("p", "leap", "hit", -1, 1)]
    return Game(Board(4, 4, []), ["p", "q"], rules, [("p", "q")], [("home", "q")], "lost")


def tag():
    """Round a hole, one kind alone."""
    rules = [("a", "leap", "any", across, up) for across, up in STEPS]
    return Game(Board(3, 3, [4]), ["a"], rules, [], [("without", "a")], "lost")


def crowns():
    """Draughts that end by the stuck word alone."""
    game = draughts()
    return Game(game.board, game.kinds, game.rules, game.turns, [], "lost")


def pushing():
    """Who can't move has won."""
    rules = [("a", "leap", "go", 0, 1), ("a", "leap", "go", 1, 0), ("b", "jump", "hit", 0, 1), ("b", "leap", "go", 0, 1)]
    return Game(Board(3, 3, [2]), ["a", "b"], rules, [("a", "b")], [("home", "a")], "won")


def played():
    """Games with places whose webs have all words, and few enough places."""
    return [
        (chase(), ("KR.........k", 0)), (chase(), ("K......r..k.", 1)), (race(), ("PPP..........ppp", 0)),
        (race(), ("P.P..........p.p", 1)), (tag(), ("A...#...a", 0)), (tag(), ("AA..#..aa", 1)),
        (crowns(), ("M..............m....", 0)), (crowns(), ("..M............m....", 1)), (pushing(), ("A.#a.Baa.", 1)),
        (pushing(), ("A.#.A.aa.", 0)), (hunt(), ("#PkPrMP#kppK", 1)), (hunt(), ("#MKR.Pp#kkmm", 0)),
        (strip(), ("aAaAA#", 1)), (draughts(), ("......d.......D..mM.", 0)), (bare(), ("z", 1)),
        (riders(), ("GGh#n...gSnS#.jGj.J...NJ.", 0)), (strip(), ("ABbaa#", 0)),
    ]


def places(game, many):
    """Places from empty to full, the same ones each time."""
    chance = random.Random(many)
    signs = "".join(game.kinds) + "".join(game.kinds).upper()
    told = []
    for number in range(many):
        row = ""
        for square in range(game.board.wide * game.board.high):
            sign = chance.choice(signs) if chance.random() * many < number else "."
            row += "#" if square in game.board.holes else sign
        told.append((row, number % 2))
    return told


def rule_by_chance(chance, kinds):
    sort = chance.choice(["leap", "leap", "slide", "jump"])
    longest = 3 if sort == "leap" and chance.random() < 0.2 else 1
    steps = [(across, up) for across in range(-longest, longest + 1) for up in range(-longest, longest + 1)]
    steps.remove((0, 0))
    aim = "hit" if sort == "jump" else chance.choice(["go", "hit", "any", "any"])
    return (chance.choice(kinds), sort, aim) + chance.choice(steps)


def game_by_chance(chance):
    wide, high = chance.choice([(1, 4), (2, 2), (3, 2), (2, 3), (3, 3), (4, 2), (5, 1)])
    holes = [square for square in range(1, wide * high) if chance.random() < 0.12]
    kinds = chance.sample("abcdk", chance.randint(1, 3))
    rules = [rule_by_chance(chance, kinds) for _ in range(chance.randint(2, 12))]
    turns = [(kind, kinds[0]) for kind in kinds[1:] if chance.random() < 0.5]
    ends = [(chance.choice(["without", "home"]), chance.choice(kinds)) for _ in range(chance.randint(0, 3))]
    return Game(Board(wide, high, holes), kinds, rules, turns, ends, chance.choice(["lost", "even", "won"]))


def place_by_chance(chance, game):
    """A place with one to four pieces, as far as there is room."""
    row = ["#" if square in game.board.holes else "." for square in range(game.board.wide * game.board.high)]
    free = game.board.squares()
    for square in chance.sample(free, chance.randint(1, min(4, len(free)))):
        row[square] = chance.choice(game.kinds + [kind.upper() for kind in game.kinds])
    return ("".join(row), chance.randrange(2))


def stands(game, row, column, line):
    """What stands there: its sign, "#" off the board too."""
    wide, high = game.board.wide, game.board.high
    return row[line * wide + column] if column in range(wide) and line in range(high) else "#"


def pairs_by_columns(game, row, square):
    """Goals and taken squares told by columns and rows, step by step."""
    wide = game.board.wide
    mine = row[square]
    foes = str.islower if mine.isupper() else str.isupper
    pairs = set()
    for kind, sort, aim, across, up in game.rules:
        if kind != mine.lower():
            continue
        step = up if mine.isupper() else -up
        for far in range(1, 9 if sort == "slide" else 2):
            column, line = square % wide + far * across, square // wide + far * step
            there, goal = stands(game, row, column, line), line * wide + column
            beyond = (column + across, line + step)
            if sort == "jump":
                if foes(there) and stands(game, row, *beyond) == ".":
                    pairs.add((beyond[1] * wide + beyond[0], goal))
            elif there == "." and aim in ("go", "any"):
                pairs.add((goal, -1))
            elif foes(there) and aim in ("hit", "any"):
                pairs.add((goal, goal))
            if there != ".":
                break
    return sorted(pairs)


def moves_by_columns(game, place):
    row, side = place
    mine = str.isupper if side == 0 else str.islower
    starts = [square for square in range(len(row)) if mine(row[square])]
    return [(start,) + pair for start in starts for pair in pairs_by_columns(game, row, start)]


def done_by_signs(game, place, move):
    """The place behind a move, told sign by sign."""
    row, side = place
    start, goal, taken = move
    signs = list(row)
    sign = signs[start]
    line = goal // game.board.wide
    if line == (game.board.high - 1 if side == 0 else 0):
        for kind, other in game.turns:
            if sign.lower() == kind:
                sign = other.upper() if side == 0 else other
                break
    signs[start] = "."
    if taken != -1:
        signs[taken] = "."
    signs[goal] = sign
    return ("".join(signs), 1 - side)


def ending_by_signs(game, place):
    """How a place ends, told by counting signs."""
    row, side = place
    wide, high = game.board.wide, game.board.high
    far = [row[wide * (high - 1):], row[:wide]]
    for word, kind in game.ends:
        signs = [kind.upper(), kind]
        mine, theirs = signs[side], signs[1 - side]
        if word == "without":
            fates = [row.count(mine) == 0, row.count(theirs) == 0]
        else:
            fates = [far[1 - side].count(theirs) > 0, far[side].count(mine) > 0]
        if any(fates):
            return "lost" if fates[0] else "won"
    return None if moves_by_columns(game, place) else game.stuck


def followers_by_signs(game, place):
    if ending_by_signs(game, place) is not None:
        return []
    return [done_by_signs(game, place, move) for move in moves_by_columns(game, place)]


def places_by_signs(game, starts):
    """All places that are come to, in a web's order."""
    told = list(dict.fromkeys(starts))
    there = set(told)
    for place in told:
        for follower in followers_by_signs(game, place):
            if follower not in there:
                there.add(follower)
                told.append(follower)
    return told


def follows(word, others):
    """Whether a word follows from those of the followers, asked word by word."""
    lost = {n for name, n in others if name == "lost"}
    if lost:
        return word == ("won", 1 + sorted(lost)[0])
    if any(name == "even" for name, _ in others):
        return word == ("even", 0)
    return word == ("lost", 1 + sorted(n for _, n in others)[-1])
