"""Words worked out backwards, from the places whose words are known."""

from playboard.wordings import EVEN


def ways_back(nexts, known):
    found = [[] for ways in nexts]
    for number, ways in enumerate(nexts):
        # What is known stays as it is, whatever it leads to.
        if known[number] is None:
            for follower in ways:
                found[follower].append(number)
    return found


def latest_first(known):
    told = [number for number, word in enumerate(known) if word is not None and word[0] != "even"]
    return sorted(told, key=lambda number: known[number][1], reverse=True)


def next_wave(wave, words, back, left):
    found = []
    for number in wave:
        word = words[number]
        for above in back[number]:
            if words[above] is not None:
                continue
            left[above] -= 1
            if word[0] == "lost":
                words[above] = ("won", word[1] + 1)
            elif left[above] == 0:
                words[above] = ("lost", word[1] + 1)
            if words[above] is not None:
                found.append(above)
    return found


def worked(nexts, known):
    words = list(known)
    back = ways_back(nexts, known)
    # How many ways of each place aren't yet found to lead to a win of the other side.
    left = [len(ways) for ways in nexts]
    waiting = latest_first(known)
    wave = []
    # Each wave has all places of one n, so that a place's word is told by the least n that tells it.
    while wave or waiting:
        # Behind the last wave on to the next n that is known, so that a great one takes no more work.
        n = words[wave[0] if wave else waiting[-1]][1]
        while waiting and words[waiting[-1]][1] == n:
            wave.append(waiting.pop())
        wave = next_wave(wave, words, back, left)
    return [EVEN if word is None else word for word in words]
