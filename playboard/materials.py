"""Materials: which pieces a row has, and which ones moves may lead to."""

from playboard.places import kind_of, side_of, sign_of


def material_of(row):
    return "".join(sorted([sign for sign in row if kind_of(sign) is not None]))


def signs_of(material, side):
    return sorted(set([sign for sign in material if side_of(sign) == side]))


def less(material, sign):
    return material.replace(sign, "", 1)


def turned_ones(game, material, side):
    found = []
    for sign in signs_of(material, side):
        other = sign_of(game.turned(kind_of(sign)), side)
        if other != sign:
            found.append(material_of(less(material, sign) + other))
    return found


def leads(game, material):
    found = []
    for side in (0, 1):
        # Who has no piece takes none.
        if signs_of(material, side):
            lighter = [less(material, sign) for sign in signs_of(material, 1 - side)]
            found.extend(lighter)
            for each in [material] + lighter:
                found.extend(turned_ones(game, each, side))
    return sorted(set(found))


def all_leads(game, material):
    found = {}
    waiting = [material]
    while waiting:
        here = waiting.pop()
        if here not in found:
            found[here] = leads(game, here)
            waiting.extend(found[here])
    return found


def closed(game, material):
    ways = all_leads(game, material)
    above = {}
    left = {}
    for each in ways:
        above[each] = []
        left[each] = len(ways[each])
    for each in ways:
        for other in ways[each]:
            above[other].append(each)
    ready = [each for each in ways if left[each] == 0]
    found = []
    while ready:
        least = min(ready)
        ready.remove(least)
        found.append(least)
        for each in above[least]:
            left[each] -= 1
            if left[each] == 0:
                ready.append(each)
    return found
