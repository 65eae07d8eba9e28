"""Webs: all places that are come to from some places by moves."""

from playboard.ends import ending, followers
from playboard.errors import BadPlace, TooWide
from playboard.places import is_place


class Web:
    def __init__(self, game, starts, most):
        if not all([is_place(game, start) for start in starts]):
            raise BadPlace("a web starts at places of its game")
        self.game = game
        self.places = []
        self.numbers = {}
        # By numbers, as nexts and known tell them.
        self.ways = []
        self.overs = []
        self.gather(starts, most)
        while len(self.ways) < len(self.places):
            place = self.places[len(self.ways)]
            found = followers(game, place)
            self.gather(found, most)
            self.ways.append([self.numbers[follower] for follower in found])
            # Only a place that is over has no followers.
            self.overs.append(None if found else (ending(game, place), 0))

    def gather(self, found, most):
        for place in found:
            if place not in self.numbers:
                if len(self.places) >= most:
                    raise TooWide("the web has more places than are let")
                self.numbers[place] = len(self.places)
                self.places.append(place)

    def number(self, place):
        # Asked ahead, since Python would take True for the side 1.
        return self.numbers.get(place) if is_place(self.game, place) else None

    def nexts(self):
        return [list(numbers) for numbers in self.ways]

    def known(self):
        return list(self.overs)
