"""Kinds, rules, turns and ends: what is one, and what is a list of them."""

from playboard.words import is_among, is_letter

SORTS = ("leap", "slide", "jump")
AIMS = ("go", "hit", "any")
END_WORDS = ("without", "home")
STUCK_WORDS = ("lost", "even", "won")
MOST_KINDS = 6
MOST_RULES = 24
MOST_PAIRS = 6


def is_word(thing, words):
    return isinstance(thing, str) and thing in words


def is_tuple_of(thing, many):
    return isinstance(thing, tuple) and len(thing) == many


def is_list_of(thing, least, most):
    return isinstance(thing, list) and least <= len(thing) <= most


def is_step(sort, across, up):
    longest = 3 if sort == "leap" else 1
    if not is_among(across, -longest, longest) or not is_among(up, -longest, longest):
        return False
    return across != 0 or up != 0


def is_rule(thing, kinds):
    if not is_tuple_of(thing, 5) or not is_word(thing[0], kinds):
        return False
    sort = thing[1]
    aim = thing[2]
    if not is_word(sort, SORTS) or not is_word(aim, AIMS):
        return False
    if sort == "jump" and aim != "hit":
        return False
    return is_step(sort, thing[3], thing[4])


def is_pair(thing, firsts, seconds):
    return is_tuple_of(thing, 2) and is_word(thing[0], firsts) and is_word(thing[1], seconds)


def are_pairs(thing, firsts, seconds):
    return is_list_of(thing, 0, MOST_PAIRS) and all([is_pair(part, firsts, seconds) for part in thing])


def is_turns(thing, kinds):
    if not are_pairs(thing, kinds, kinds):
        return False
    firsts = [pair[0] for pair in thing]
    # A kind that turned into itself would stand first and second, so it needs no question of its own.
    if any([pair[1] in firsts for pair in thing]):
        return False
    return len(set(firsts)) == len(firsts)


def is_ends(thing, kinds):
    return are_pairs(thing, END_WORDS, kinds)


def are_kinds(thing):
    if not is_list_of(thing, 1, MOST_KINDS) or not all([is_letter(part) for part in thing]):
        return False
    return len(set(thing)) == len(thing)


def are_rules(thing, kinds):
    return is_list_of(thing, 0, MOST_RULES) and all([is_rule(part, kinds) for part in thing])
