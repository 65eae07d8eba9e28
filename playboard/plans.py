"""Plans: how the side that holds a place's word moves, whatever the other one does."""

from playboard.best import best


def holder_of(place, word):
    return 1 - place[1] if word[0] == "lost" else place[1]


def ways_by_plan(nexts, known, words, number, holds):
    return best(nexts, known, words, number)[:1] if holds else nexts[number]


def plan(web, words, number):
    nexts = web.nexts()
    known = web.known()
    holder = holder_of(web.places[number], words[number])
    chosen = {}
    seen = {number: True}
    waiting = [number]
    while waiting:
        here = waiting.pop()
        holds = web.places[here][1] == holder
        ways = ways_by_plan(nexts, known, words, here, holds)
        # None are there of a place that is over.
        if holds and ways:
            chosen[here] = ways[0]
        for way in ways:
            if way not in seen:
                seen[way] = True
                waiting.append(way)
    return chosen


def lines_of(web, words, number, most):
    nexts = web.nexts()
    chosen = plan(web, words, number)
    ended = []
    going = [[number]]
    while going and len(going[0]) <= most:
        longer = []
        for way in going:
            last = way[-1]
            onwards = [chosen[last]] if last in chosen else nexts[last]
            if not onwards:
                ended.append(way)
            longer.extend([way + [follower] for follower in onwards])
        going = longer
    return sorted(ended + going)
