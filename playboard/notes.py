"""Games written as lines, and read from them."""

from playboard.boards import Board
from playboard.errors import BadLine
from playboard.games import Game
from playboard.rules import AIMS, STUCK_WORDS, is_word
from playboard.words import is_letter, number_of, number_text

ORDER = ("board", "hole", "kind", "rule", "turn", "end", "stuck")

# By a line's first word, of which sort the line is, and what its other words are.
FORMS = {
    "board": ("board", "number", "number"),
    "hole": ("hole", "number"),
    "kind": ("kind", "letter"),
    "leap": ("rule", "letter", "aim", "number", "number"),
    "slide": ("rule", "letter", "aim", "number", "number"),
    "jump": ("rule", "letter", "aim", "number", "number"),
    "turn": ("turn", "letter", "letter"),
    "without": ("end", "letter"),
    "home": ("end", "letter"),
    "stuck": ("stuck", "word"),
}


def rule_line(rule):
    return " ".join([rule[1], rule[0], rule[2], number_text(rule[3]), number_text(rule[4])])


def written(game):
    board = game.board
    lines = [" ".join(["board", number_text(board.wide), number_text(board.high)])]
    lines.extend(["hole " + number_text(hole) for hole in board.holes])
    lines.extend(["kind " + kind for kind in game.kinds])
    lines.extend([rule_line(rule) for rule in game.rules])
    lines.extend([" ".join(["turn", turn[0], turn[1]]) for turn in game.turns])
    lines.extend([" ".join(end) for end in game.ends])
    lines.append("stuck " + game.stuck)
    return lines


def part_of(form, word):
    if form == "number":
        return number_of(word)
    if form == "letter":
        fits = is_letter(word)
    else:
        fits = is_word(word, AIMS if form == "aim" else STUCK_WORDS)
    return word if fits else None


def parts_of(line):
    words = line.split(" ")
    form = FORMS.get(words[0])
    if form is None or len(words) != len(form):
        return None
    parts = words[:1] + [part_of(asked, word) for asked, word in zip(form[1:], words[1:])]
    return None if None in parts else parts


def may_follow(sort, last):
    if sort == "board" or last is None:
        return sort == "board" and last is None
    return last != "stuck" and ORDER.index(last) <= ORDER.index(sort)


def sorted_out(lines):
    found = {}
    for sort in ORDER:
        found[sort] = []
    last = None
    for at, line in enumerate(lines):
        parts = parts_of(line)
        if parts is None:
            raise BadLine(at)
        sort = FORMS[parts[0]][0]
        if not may_follow(sort, last):
            raise BadLine(at)
        found[sort].append(parts)
        last = sort
    if last != "stuck":
        raise BadLine(len(lines))
    return found


def game_of(lines):
    found = sorted_out(lines)
    size = found["board"][0]
    board = Board(size[1], size[2], [parts[1] for parts in found["hole"]])
    kinds = [parts[1] for parts in found["kind"]]
    rules = [(parts[1], parts[0], parts[2], parts[3], parts[4]) for parts in found["rule"]]
    turns = [(parts[1], parts[2]) for parts in found["turn"]]
    ends = [(parts[0], parts[1]) for parts in found["end"]]
    return Game(board, kinds, rules, turns, ends, found["stuck"][0][1])
