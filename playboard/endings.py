"""Endings: the words of all places of some materials, worked out one material after the other."""

from playboard.backwards import worked
from playboard.ends import ending, followers
from playboard.errors import NoWord
from playboard.materials import closed, material_of
from playboard.placings import placings


class Endings:
    def __init__(self, game):
        self.game = game
        self.settled = {}
        self.words = {}

    def work(self, material):
        # Each comes behind all that it leads to, so that their words are there.
        for each in closed(self.game, material_of(material)):
            if each not in self.settled:
                self.settle(placings(self.game, each))
                self.settled[each] = True

    def settle(self, rows):
        inner = [(row, 0) for row in rows] + [(row, 1) for row in rows]
        numbers = dict([(place, number) for number, place in enumerate(inner)])
        nexts = []
        known = []
        for place in inner:
            found = followers(self.game, place)
            for follower in found:
                numbers.setdefault(follower, len(numbers))
            nexts.append([numbers[follower] for follower in found])
            known.append(None if found else (ending(self.game, place), 0))
        # The others are of materials that were worked out ahead of this one.
        for place in list(numbers)[len(inner):]:
            nexts.append([])
            known.append(self.words[place])
        for place, word in zip(inner, worked(nexts, known)):
            self.words[place] = word

    def word(self, place):
        if place not in self.words:
            raise NoWord("the place's material isn't worked out")
        return self.words[place]

    def materials(self):
        return sorted(self.settled)
