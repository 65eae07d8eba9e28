"""Matches: moves played one after the other from a place on, and taken back."""

from playboard.ends import ending
from playboard.errors import BadPlace, NothingBack, Over
from playboard.moves import behind
from playboard.movetexts import move_of
from playboard.places import is_place
from playboard.showing import SIDE_WORDS

MOST_TIMES = 3


class Match:
    def __init__(self, game, place):
        if not is_place(game, place):
            raise BadPlace("a match begins at a place of its game")
        self.game = game
        # One more than there are moves: the first is the one at which it began.
        self.places = [place]
        self.played = []

    def here(self):
        return self.places[-1]

    def texts(self):
        return list(self.played)

    def play(self, text):
        if self.outcome() is not None:
            raise Over("the match is over")
        move = move_of(self.game, self.here(), text)
        self.places.append(behind(self.game, self.here(), move))
        self.played.append(text)

    def back(self):
        if not self.played:
            raise NothingBack("no move is there to be taken back")
        self.places.pop()
        self.played.pop()

    def outcome(self):
        place = self.here()
        word = ending(self.game, place)
        if word == "won":
            return SIDE_WORDS[place[1]]
        if word == "lost":
            return SIDE_WORDS[1 - place[1]]
        if word == "even" or self.places.count(place) >= MOST_TIMES:
            return "even"
        return None
