"""Ends: whether a place is over, and the places that follow one that isn't."""

from playboard.moves import behind, moves
from playboard.places import sign_of


def has_kind(row, kind, side):
    return sign_of(kind, side) in row


def is_home(board, row, kind, side):
    start = board.far_row(side) * board.wide
    return has_kind(row[start:start + board.wide], kind, side)


def by_end(board, place, end):
    row = place[0]
    side = place[1]
    kind = end[1]
    if end[0] == "without":
        lost = not has_kind(row, kind, side)
        won = not has_kind(row, kind, 1 - side)
    else:
        lost = is_home(board, row, kind, 1 - side)
        won = is_home(board, row, kind, side)
    if lost:
        return "lost"
    return "won" if won else None


def by_ends(game, place):
    for end in game.ends:
        word = by_end(game.board, place, end)
        if word is not None:
            return word
    return None


def ending(game, place):
    word = by_ends(game, place)
    if word is None and not moves(game, place):
        return game.stuck
    return word


def followers(game, place):
    # The stuck word needs no look: where it tells, there are no moves.
    if by_ends(game, place) is not None:
        return []
    return [behind(game, place, move) for move in moves(game, place)]
