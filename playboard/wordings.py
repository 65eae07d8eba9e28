"""Words of places: how one follows from others, and how it is written."""

from playboard.words import number_text

EVEN = ("even", 0)


def by_followers(words):
    lost = [word[1] for word in words if word[0] == "lost"]
    if lost:
        return ("won", min(lost) + 1)
    won = [word[1] for word in words if word[0] == "won"]
    if len(won) == len(words):
        return ("lost", max(won) + 1)
    return EVEN


def word_text(word):
    if word == EVEN:
        return "even"
    return word[0] + " in " + number_text(word[1])
