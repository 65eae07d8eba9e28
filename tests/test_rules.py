import itertools
import unittest
from unittest.mock import ANY

from playboard.rules import is_ends, is_rule, is_turns
from samples import ODD_THINGS

KINDS = ["k", "a", "p"]
REACHES = {"leap": 3, "slide": 1, "jump": 1}
SORTS = ["leap", "slide", "jump"]
AIMS = ["go", "hit", "any"]
NO_KINDS = ["b", "K", "A", "", "ka", "k ", " ", ".", "#", "1"] + [thing for thing in ODD_THINGS if thing != "a"]


class TestIsRule(unittest.TestCase):
    def check(self, thing, truth, kinds=None):
        self.assertIs(is_rule(thing, KINDS if kinds is None else kinds), truth, thing)

    def test_each_sort_aim_and_step(self):
        for sort, aim in itertools.product(SORTS, AIMS):
            for across, up in itertools.product(range(-6, 7), repeat=2):
                near = max(abs(across), abs(up)) <= REACHES[sort]
                truth = near and (across, up) != (0, 0) and (sort != "jump" or aim == "hit")
                self.check(("a", sort, aim, across, up), truth)

    def test_great_steps(self):
        for sort in SORTS:
            for number in (10 ** 9, -(10 ** 9), 10 ** 30, -(10 ** 30)):
                self.check(("a", sort, "hit", number, 1), False)
                self.check(("a", sort, "hit", 1, number), False)

    def test_each_kind_that_is_one(self):
        for kinds in (["a"], KINDS, list("zyxwvu")):
            for kind in kinds:
                self.check((kind, "leap", "go", 1, 2), True, kinds)
                self.check((kind, "jump", "hit", 1, 1), True, kinds)

    def test_kinds_that_are_none(self):
        for thing in NO_KINDS:
            self.check((thing, "leap", "go", 1, 0), False)
        self.check(("a", "leap", "go", 1, 0), False, [])
        self.check(("a", "leap", "go", 1, 0), False, ["b"])
        self.check(("ab", "leap", "go", 1, 0), False, ["a", "b"])

    def test_sorts_and_aims_that_are_none(self):
        words = ["", "Leap", "leaps", "lea", "LEAP", "leap ", "go", "hop", "rule", "turn", "a"]
        for thing in words + [thing for thing in ODD_THINGS if thing != "leap"]:
            self.check(("a", thing, "hit", 1, 0), False)
        words = ["", "Go", "goes", "g", "GO", "go ", "leap", "take", "all", "a"]
        for thing in words + [thing for thing in ODD_THINGS if thing != "go"]:
            self.check(("a", "leap", thing, 1, 0), False)

    def test_steps_that_are_no_whole_numbers(self):
        for thing in [thing for thing in ODD_THINGS if not type(thing) is int] + ["1", "-1", -1.0]:
            for sort in SORTS:
                self.check(("a", sort, "hit", thing, 1), False)
                self.check(("a", sort, "hit", 1, thing), False)
                self.check(("a", sort, "hit", thing, thing), False)
                self.check(("a", sort, "hit", thing, 0), False)

    def test_a_part_more_or_less(self):
        rule = ("a", "leap", "go", 1, 0)
        self.check(rule, True)
        for many in range(5):
            for parts in itertools.combinations(rule, many):
                self.check(parts, False)
        for thing in ODD_THINGS:
            for place in range(6):
                self.check(rule[:place] + (thing,) + rule[place:], False)
        self.check(rule + rule, False)
        self.check((rule,), False)

    def test_parts_exchanged(self):
        rule = ("a", "leap", "go", 1, 2)
        right = [rule, ("a", "leap", "go", 2, 1)]
        for parts in itertools.permutations(rule):
            self.check(parts, parts in right)

    def test_no_tuple(self):
        self.check(["a", "leap", "go", 1, 0], False)
        self.check("a leap go 1 0", False)
        self.check("aleap", False)
        self.check({"a": 1, "leap": 2, "go": 3, 1: 4, 2: 5}, False)
        for thing in ODD_THINGS:
            self.check(thing, False)
            self.check((thing,) * 5, False)

    def test_things_that_are_equal_to_everything(self):
        self.check((ANY, "leap", "go", 1, 0), False)
        self.check(("a", ANY, "go", 1, 0), False)
        self.check(("a", "leap", ANY, 1, 0), False)
        self.check(("a", "leap", "go", ANY, 0), False)
        self.check(ANY, False)

    def test_nothing_is_changed(self):
        kinds = ["k", "a"]
        parts = ["a", "leap", "go", 1, 0]
        is_rule(parts, kinds)
        is_rule((parts, parts, parts, parts, parts), kinds)
        self.assertEqual((kinds, parts), (["k", "a"], ["a", "leap", "go", 1, 0]))


class TestIsTurns(unittest.TestCase):
    def check(self, thing, truth, kinds=None):
        self.assertIs(is_turns(thing, list("abcdefgh") if kinds is None else kinds), truth, thing)

    def test_none_to_six_and_seven(self):
        pairs = [(kind, "h") for kind in "gfedcba"]
        for many in range(7):
            self.check(pairs[:many], True)
            self.check(pairs[1:][:many], True)
        self.check(pairs, False)
        self.check(pairs + pairs, False)

    def test_all_lists_of_up_to_three_pairs_of_three_kinds(self):
        pairs = list(itertools.product("abc", repeat=2))
        for many in range(4):
            for chosen in itertools.product(pairs, repeat=many):
                firsts = [first for first, second in chosen]
                seconds = [second for first, second in chosen]
                truth = sorted(firsts) == sorted(set(firsts)) and not set(firsts) & set(seconds)
                truth = truth and all(first != second for first, second in chosen)
                self.check(list(chosen), truth, ["a", "b", "c"])

    def test_written_out(self):
        self.check([("a", "b")], True)
        self.check([("a", "b"), ("c", "b")], True)
        self.check([("a", "a")], False)
        self.check([("a", "b"), ("c", "c")], False)
        self.check([("a", "b"), ("a", "c")], False)
        self.check([("a", "b"), ("a", "b")], False)
        self.check([("a", "b"), ("b", "c")], False)
        self.check([("b", "c"), ("a", "b")], False)
        self.check([("a", "b"), ("b", "a")], False)

    def test_kinds_that_are_none(self):
        for thing in NO_KINDS:
            self.check([(thing, "k")], False, KINDS)
            self.check([("k", thing)], False, KINDS)
            self.check([("a", "p"), (thing, "k")], False, KINDS)
            self.check([("a", "p"), ("k", thing)], False, KINDS)
        self.check([("a", "b")], False, [])
        self.check([], True, [])

    def test_pairs_of_another_form(self):
        for pair in (["a", "b"], "ab", ("a",), ("a", "b", "c"), ("a", "b", None), (), {"a": "b", "c": "d"}, ("ab",)):
            self.check([pair], False)
            self.check([("c", "d"), pair], False)
            self.check([pair, ("c", "d")], False)
        for thing in ODD_THINGS:
            self.check([thing], False)
            self.check([("c", "d"), thing], False)
            self.check([thing] * 6, False)

    def test_no_list(self):
        for thing in ((), (("a", "b"),), {"a": "b"}, {}, {("a", "b"): 1}, {("a", "b")}, "ab", ("a", "b"), None, iter([])):
            self.check(thing, False)
        for thing in ODD_THINGS:
            self.check(thing, isinstance(thing, list) and not thing)

    def test_nothing_is_changed(self):
        kinds = ["b", "a"]
        pairs = [("b", "a"), ["x"]]
        is_turns(pairs, kinds)
        is_turns(pairs[:1], kinds)
        self.assertEqual((kinds, pairs), (["b", "a"], [("b", "a"), ["x"]]))


class TestIsEnds(unittest.TestCase):
    def check(self, thing, truth, kinds=None):
        self.assertIs(is_ends(thing, KINDS if kinds is None else kinds), truth, thing)

    def test_none_to_six_and_seven(self):
        pairs = list(itertools.product(["without", "home"], KINDS))
        for many in range(7):
            self.check(pairs[:many], True)
        self.check(pairs + pairs[:1], False)
        self.check(pairs * 2, False)

    def test_alike_ones(self):
        for word in ("without", "home"):
            for many in range(9):
                self.check([(word, "a")] * many, many <= 6)

    def test_each_word_and_kind(self):
        for word, kind in itertools.product(["without", "home"], KINDS):
            self.check([(word, kind)], True)
            self.check([(kind, word)], False)

    def test_words_that_are_none(self):
        words = ["", "with", "Without", "HOME", "home ", "lost", "stuck", "won", "even", "a"]
        for thing in words + ODD_THINGS:
            self.check([(thing, "a")], False)
            self.check([("home", "a"), (thing, "a")], False)

    def test_kinds_that_are_none(self):
        for thing in NO_KINDS:
            self.check([("home", thing)], False)
            self.check([("without", "a"), ("without", thing)], False)
        self.check([("home", "a")], False, [])
        self.check([], True, [])

    def test_pairs_of_another_form(self):
        for pair in (["home", "a"], "home", "home a", ("home",), ("home", "a", "a"), ("home", "a", None), (), {"home": 1}):
            self.check([pair], False)
            self.check([("home", "a"), pair], False)
            self.check([pair, ("home", "a")], False)
        for thing in ODD_THINGS:
            self.check([thing], False)
            self.check([thing] * 6, False)

    def test_no_list(self):
        for thing in ((), (("home", "a"),), ("home", "a"), {"home": "a"}, {("home", "a"): 1}, {("home", "a")}, "home", iter([])):
            self.check(thing, False)
        for thing in ODD_THINGS:
            self.check(thing, isinstance(thing, list) and not thing)

    def test_nothing_is_changed(self):
        kinds = ["b", "a"]
        pairs = [("home", "a"), ["x"]]
        is_ends(pairs, kinds)
        is_ends(pairs[:1], kinds)
        self.assertEqual((kinds, pairs), (["b", "a"], [("home", "a"), ["x"]]))


if __name__ == "__main__":
    unittest.main()
