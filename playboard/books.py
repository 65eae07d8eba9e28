"""Books of reasons: claims of what a side can reach from places, each with the lines that it rests on."""

from playboard.backwards import worked
from playboard.ends import ending, followers
from playboard.places import is_place
from playboard.plans import holder_of, ways_by_plan
from playboard.webs import Web
from playboard.words import is_among, is_whole


def is_claim(claim):
    if not is_among(claim[1], 0, 1) or not is_whole(claim[2]):
        return False
    return claim[2] >= 0 if claim[0] == "win" else claim[0] == "safe" and claim[2] == 0


def is_line(game, line, many):
    return is_place(game, line[0]) and is_claim(line[1]) and all([is_among(lead, 0, many - 1) for lead in line[2]])


def word_for(place, word, side):
    if word == "even" or place[1] == side:
        return word
    return "lost" if word == "won" else "won"


def holds_at_end(line, word):
    told = word_for(line[0], word, line[1][1])
    right = told == "won" if line[1][0] == "win" else told != "lost"
    return right and not line[2]


def rests_on(claim, other):
    if other[1] != claim[1]:
        return False
    return claim[0] == "safe" or (other[0] == "win" and other[2] < claim[2])


def leads_right(game, line, led):
    goals = [other[0] for other in led]
    found = followers(game, line[0])
    if line[0][1] == line[1][1]:
        return len(goals) == 1 and goals[0] in found
    return goals == found


def line_holds(game, line, lines):
    word = ending(game, line[0])
    if word is not None:
        return holds_at_end(line, word)
    led = [lines[lead] for lead in line[2]]
    return leads_right(game, line, led) and all([rests_on(line[1], other[1]) for other in led])


def holds(game, lines):
    # The form of all lines ahead of the rest, since each may be led to.
    if not all([is_line(game, line, len(lines)) for line in lines]):
        return False
    return all([line_holds(game, line, lines) for line in lines])


def book_of(game, place, most):
    web = Web(game, [place], most)
    nexts = web.nexts()
    known = web.known()
    words = worked(nexts, known)
    even = words[0][0] == "even"
    sides = [place[1], 1 - place[1]] if even else [holder_of(place, words[0])]
    # Of each line the number of its place and the side that it claims something for.
    heads = [(0, side) for side in sides]
    at = dict([(head, number) for number, head in enumerate(heads)])
    book = []
    while len(book) < len(heads):
        number = heads[len(book)][0]
        side = heads[len(book)][1]
        ways = ways_by_plan(nexts, known, words, number, web.places[number][1] == side)
        for way in ways:
            if (way, side) not in at:
                at[(way, side)] = len(heads)
                heads.append((way, side))
        claim = ("safe", side, 0) if even else ("win", side, words[number][1])
        book.append((web.places[number], claim, tuple([at[(way, side)] for way in ways])))
    return book
