"""Games: a board, kinds of pieces, how they move, and how it ends."""

from playboard.errors import BadGame
from playboard.rules import STUCK_WORDS, are_kinds, are_rules, is_ends, is_turns, is_word


class Game:
    def __init__(self, board, kinds, rules, turns, ends, stuck):
        if not are_kinds(kinds):
            raise BadGame("kinds are a list of 1 to 6 different letters")
        if not are_rules(rules, kinds):
            raise BadGame("rules are a list of 0 to 24 rules of the kinds")
        if not is_turns(turns, kinds):
            raise BadGame("turns are a list of 0 to 6 pairs of kinds, none turned from twice or from and into")
        if not is_ends(ends, kinds):
            raise BadGame("ends are a list of 0 to 6 pairs of without or home and a kind")
        if not is_word(stuck, STUCK_WORDS):
            raise BadGame("who can't move has lost, is even or has won")
        self.board = board
        self.kinds = list(kinds)
        self.rules = list(rules)
        self.turns = list(turns)
        self.ends = list(ends)
        self.stuck = stuck

    def rules_of(self, kind):
        return [rule for rule in self.rules if rule[0] == kind]

    def turned(self, kind):
        return dict(self.turns).get(kind, kind)
