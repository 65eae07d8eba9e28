"""Questions to a match as texts, and their answers."""

from playboard.backwards import worked
from playboard.best import best, line
from playboard.ends import ending
from playboard.errors import NoMove, NothingBack, Over, TooWide
from playboard.matches import Match
from playboard.moves import moves
from playboard.movetexts import move_text
from playboard.notes import game_of
from playboard.showing import place_of, shown
from playboard.webs import Web
from playboard.wordings import word_text
from playboard.words import is_among, number_of

PLAY = "play "
LINE = "line "
LONGEST_LINE = 99


def joined(texts):
    return " ".join(texts) if texts else "none"


def move_texts(game, place):
    return [move_text(game, move) for move in moves(game, place)]


class Study:
    def __init__(self, game, place, most):
        self.web = Web(game, [place], most)
        self.ways = self.web.nexts()
        self.overs = self.web.known()
        self.words = worked(self.ways, self.overs)

    def texts_to(self, number, chosen):
        texts = move_texts(self.web.game, self.web.places[number])
        return [text for text, follower in zip(texts, self.ways[number]) if follower in chosen]

    def best_texts(self):
        return self.texts_to(0, best(self.ways, self.overs, self.words, 0))

    def line_texts(self, most):
        way = line(self.ways, self.overs, self.words, 0, most)
        found = []
        for number, follower in zip(way, way[1:]):
            found.extend(self.texts_to(number, [follower]))
        return found


def line_length(question):
    if not question.startswith(LINE):
        return None
    number = number_of(question[len(LINE):])
    return number if is_among(number, 0, LONGEST_LINE) else None


def told_of_moves(bout):
    place = bout.here()
    # A place that is over may have moves, but no followers.
    return joined(move_texts(bout.game, place) if ending(bout.game, place) is None else [])


def told_of_outcome(bout):
    outcome = bout.outcome()
    return "open" if outcome is None else outcome


def told_of_play(bout, text):
    try:
        bout.play(text)
    except Over:
        return "over"
    except NoMove:
        return "no move"
    return "done"


def told_of_back(bout):
    try:
        bout.back()
    except NothingBack:
        return "nothing back"
    return "done"


class Clerk:
    def __init__(self, bout, most):
        self.bout = bout
        self.most = most
        # The last place that was looked at by its web, since it is often asked about again.
        self.looked_at = None
        self.study = None

    def look(self):
        place = self.bout.here()
        if place != self.looked_at:
            self.looked_at = place
            try:
                self.study = Study(self.bout.game, place, self.most)
            except TooWide:
                self.study = None

    def told_by_web(self, question):
        self.look()
        if self.study is None:
            return "too wide"
        if question == "word":
            return word_text(self.study.words[0])
        if question == "best":
            return joined(self.study.best_texts())
        return joined(self.study.line_texts(line_length(question)))

    def answer(self, question):
        if question.startswith(PLAY):
            return told_of_play(self.bout, question[len(PLAY):])
        if question == "back":
            return told_of_back(self.bout)
        if question == "moves":
            return told_of_moves(self.bout)
        if question == "show":
            return "/".join(shown(self.bout.game, self.bout.here()))
        if question == "outcome":
            return told_of_outcome(self.bout)
        if question in ("word", "best") or line_length(question) is not None:
            return self.told_by_web(question)
        return "no question"


def answered(game_lines, place_lines, questions, most):
    game = game_of(game_lines)
    clerk = Clerk(Match(game, place_of(game, place_lines)), most)
    return [clerk.answer(question) for question in questions]
