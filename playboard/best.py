"""Best play: the followers by which a place keeps its word."""


def aim_of(word):
    if word[0] == "won":
        return ("lost", word[1] - 1)
    if word[0] == "lost":
        return ("won", word[1] - 1)
    return word


def best(nexts, known, words, number):
    if known[number] is not None:
        return []
    aim = aim_of(words[number])
    return sorted(set([follower for follower in nexts[number] if words[follower] == aim]))


def line(nexts, known, words, number, most):
    found = [number]
    while len(found) <= most and known[found[-1]] is None:
        found.append(best(nexts, known, words, found[-1])[0])
    return found
