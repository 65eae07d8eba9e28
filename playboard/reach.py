"""Reach: the squares that a piece may go to, and what it takes by that."""

from playboard.places import kind_of, side_of
from playboard.rays import ray

# In place of a square, where no piece is taken.
NOTHING = -1


def slid(row, side, aim, path):
    found = []
    for goal in path:
        owner = side_of(row[goal])
        if owner is not None:
            if owner != side and aim != "go":
                found.append((goal, goal))
            break
        if aim != "hit":
            found.append((goal, NOTHING))
    return found


def jumped(row, side, path):
    if len(path) < 2 or side_of(row[path[0]]) != 1 - side or side_of(row[path[1]]) is not None:
        return []
    return [(path[1], path[0])]


def by_rule(board, row, square, rule):
    side = side_of(row[square])
    path = ray(board, square, rule[3], rule[4] if side == 0 else -rule[4])
    if rule[1] == "jump":
        return jumped(row, side, path)
    # A leap goes as a slide does whose ray ends behind its first square.
    return slid(row, side, rule[2], path[:1] if rule[1] == "leap" else path)


def goals(game, row, square):
    found = []
    for rule in game.rules_of(kind_of(row[square])):
        found.extend(by_rule(game.board, row, square, rule))
    return sorted(set(found))
