"""Placings: all rows of a board that have just some pieces."""

from playboard.places import EMPTY, HOLE, empty_row


def ways_to_choose(many, chosen):
    found = 1
    for step in range(chosen):
        found = found * (many - step) // (step + 1)
    return found


def many_placings(game, material):
    free = len(game.board.squares())
    found = 1
    for sign in sorted(set(material)):
        alike = material.count(sign)
        found = found * ways_to_choose(free, alike)
        free -= alike
    return found


def next_signs(rest, free):
    signs = sorted(set(rest))
    # In the order of texts, so that rows rise; not empty where each square is needed.
    return [EMPTY] + signs if len(rest) < free else signs


def placings(game, material):
    free = len(game.board.squares())
    if len(material) > free:
        return []
    # Beginnings of rows, each with the signs that are left to be put.
    parts = [("", material)]
    for under in empty_row(game.board):
        longer = []
        for row, rest in parts:
            signs = [HOLE] if under == HOLE else next_signs(rest, free)
            longer.extend([(row + sign, rest.replace(sign, "", 1)) for sign in signs])
        parts = longer
        free -= 0 if under == HOLE else 1
    return [part[0] for part in parts]
