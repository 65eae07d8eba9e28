import itertools
import unittest

from playboard.boards import Board
from playboard.errors import BadBoard, BadGame
from playboard.games import Game
from samples import ODD_THINGS, fields_of, games, hunt

KINDS = ["k", "a", "p"]
RULE = ("a", "leap", "go", 1, 0)
OTHER_RULE = ("k", "jump", "hit", -1, 1)
BOARD = Board(3, 3, [4])
LETTERS = "abcdefghijklmnopqrstuvwxyz"


def made(kinds=None, rules=None, turns=None, ends=None, stuck="lost"):
    lists = [KINDS if kinds is None else kinds]
    lists += [[] if thing is None else thing for thing in (rules, turns, ends)]
    return Game(BOARD, *lists, stuck)


class TestMaking(unittest.TestCase):
    def refused(self, *parts):
        with self.subTest(parts=parts):
            with self.assertRaises(BadGame):
                Game(BOARD, *parts)

    def test_fields_in_the_order_in_which_they_were_handed_in(self):
        board = Board(4, 3, [7, 0])
        kinds = ["r", "k", "p", "b"]
        rules = [("p", "leap", "go", 0, 1), ("k", "leap", "any", -3, 3), ("p", "leap", "go", 0, 1), ("b", "jump", "hit", 1, 1)]
        turns = [("p", "r"), ("b", "k")]
        ends = [("without", "r"), ("home", "k"), ("home", "b"), ("without", "r")]
        game = Game(board, kinds, rules, turns, ends, "even")
        self.assertIs(game.board, board)
        self.assertEqual(game.kinds, ["r", "k", "p", "b"])
        self.assertEqual(game.rules, [
            ("p", "leap", "go", 0, 1), ("k", "leap", "any", -3, 3), ("p", "leap", "go", 0, 1), ("b", "jump", "hit", 1, 1),
        ])
        self.assertEqual(game.turns, [("p", "r"), ("b", "k")])
        self.assertEqual(game.ends, [("without", "r"), ("home", "k"), ("home", "b"), ("without", "r")])
        self.assertEqual(game.stuck, "even")
        for field in (game.kinds, game.rules, game.turns, game.ends):
            self.assertIs(type(field), list)

    def test_one_to_six_kinds(self):
        for many in range(1, 7):
            for kinds in (list(LETTERS[:many]), list(LETTERS[::-1][:many])):
                self.assertEqual(Game(BOARD, kinds, [], [], [], "won").kinds, kinds)
        self.refused([], [], [], [], "won")
        self.refused(list(LETTERS[:7]), [], [], [], "won")
        self.refused(list(LETTERS), [], [], [], "won")

    def test_kinds_told_twice(self):
        self.refused(["a", "a"], [], [], [], "won")
        self.refused(["a", "b", "c", "b"], [], [], [], "won")
        self.refused(["a", "b", "c", "d", "e", "a"], [], [], [], "won")
        self.refused(["a"] * 6, [], [], [], "won")

    def test_kinds_that_are_no_letters(self):
        for thing in ["A", "Z", "ab", "", " ", ".", "#", "1", "`", "{"] + [thing for thing in ODD_THINGS if thing != "a"]:
            self.refused([thing], [], [], [], "won")
            self.refused(["b", thing], [], [], [], "won")
            self.refused([thing, "b", "c", "d", "e", "f"], [], [], [], "won")

    def test_kinds_that_are_no_list(self):
        for thing in ODD_THINGS + ["abc", ("a", "b"), ("a",), {"a": "b"}]:
            if thing != ["a"]:
                self.refused(thing, [], [], [], "won")

    def test_none_to_twenty_four_rules(self):
        every = [("a", "leap", "any", across, up) for across in range(-3, 4) for up in range(-3, 4) if (across, up) != (0, 0)]
        for many in range(25):
            self.assertEqual(made(rules=every[:many]).rules, every[:many])
            self.assertEqual(made(rules=[RULE] * many).rules, [RULE] * many)
        self.refused(KINDS, every[:25], [], [], "won")
        self.refused(KINDS, every, [], [], "won")
        self.refused(KINDS, [RULE] * 25, [], [], "won")

    def test_a_rule_that_is_none_at_any_place(self):
        wrong = [
            ("b", "leap", "go", 1, 0), ("a", "leap", "go", 0, 0), ("a", "leap", "go", 4, 0), ("a", "leap", "go", 0, -4),
            ("a", "slide", "go", 2, 0), ("a", "jump", "hit", 0, 2), ("a", "jump", "go", 1, 0), ("a", "jump", "any", 1, 0),
            ("a", "hop", "go", 1, 0), ("a", "leap", "take", 1, 0), ("a", "leap", "go", True, 0), ("a", "leap", "go", 1, False),
            ["a", "leap", "go", 1, 0], ("a", "leap", "go", 1), ("a", "leap", "go", 1, 0, 0), ("A", "leap", "go", 1, 0),
        ]
        for thing in wrong + ODD_THINGS:
            for many in (1, 2, 5, 24):
                for place in {0, many // 2, many - 1}:
                    rules = [RULE] * many
                    rules[place] = thing
                    self.refused(KINDS, rules, [], [], "won")

    def test_rules_that_are_no_list(self):
        for thing in ODD_THINGS + [(RULE,), {RULE: 1}, {RULE}, RULE, None, "leap"]:
            if thing != []:
                self.refused(KINDS, thing, [], [], "won")

    def test_turns(self):
        pairs = [(kind, "f") for kind in "abcde"]
        for many in range(6):
            self.assertEqual(made(kinds=list("abcdef"), turns=pairs[:many]).turns, pairs[:many])
        wrong = [
            [("a", "a")], [("a", "k"), ("a", "p")], [("a", "k"), ("a", "k")], [("a", "k"), ("k", "p")], [("k", "p"), ("a", "k")],
            [("b", "k")], [("k", "b")], [("K", "a")], [["a", "k"]], [("a", "k", "p")], [("a",)], [()], ["ak"], [None],
            (("a", "k"),), ("a", "k"), {"a": "k"}, "ak", [("a", "k")] * 7, [("a", None)], [(["a"], "k")], [({}, [])],
        ]
        for thing in wrong + [thing for thing in ODD_THINGS if thing != []]:
            self.refused(KINDS, [], thing, [], "won")

    def test_ends(self):
        pairs = list(itertools.product(["home", "without"], KINDS))
        for many in range(7):
            self.assertEqual(made(ends=pairs[:many]).ends, pairs[:many])
            self.assertEqual(made(ends=pairs[:1] * many).ends, pairs[:1] * many)
        wrong = [
            pairs + pairs[:1], pairs[:1] * 7, [("with", "a")], [("a", "home")], [("home", "b")], [("home", "A")], [["home", "a"]],
            [("home", "a", "a")], [("home",)], [()], ["home"], [None], (("home", "a"),), ("home", "a"), {"home": "a"}, "home",
            [("home", None)], [("home", ["a"])], [([], "a")], [({}, {})],
        ]
        for thing in wrong + [thing for thing in ODD_THINGS if thing != []]:
            self.refused(KINDS, [], [], thing, "won")

    def test_words_for_who_cannot_move(self):
        for word in ("lost", "even", "won"):
            self.assertEqual(made(stuck=word).stuck, word)
        words = ["", "Lost", "WON", "won ", " even", "draw", "lostwon", "stuck", "l", ("lost",), ["lost"], {"lost": 1}]
        for thing in words + [thing for thing in ODD_THINGS if thing != "lost"]:
            self.refused(KINDS, [], [], [], thing)

    def test_all_is_wrong(self):
        for thing in ODD_THINGS:
            self.refused(thing, thing, thing, thing, thing)

    def test_kinds_are_those_of_the_game(self):
        for kind in ("b", "x", "z"):
            self.refused(KINDS, [(kind, "leap", "go", 1, 0)], [], [], "won")
            self.refused(KINDS, [], [("a", kind)], [], "won")
            self.refused(KINDS, [], [(kind, "a")], [], "won")
            self.refused(KINDS, [], [], [("home", kind)], "won")

    def test_a_refusal_is_no_other_one(self):
        with self.assertRaises(BadGame) as told:
            made(kinds=[])
        self.assertNotIsInstance(told.exception, BadBoard)


class TestKeeping(unittest.TestCase):
    def test_what_is_handed_in_stays_as_it_was(self):
        lists = [["k", "a"], [RULE, OTHER_RULE, RULE], [("a", "k")], [("home", "k"), ("home", "a")]]
        copies = [list(part) for part in lists]
        game = Game(BOARD, *lists, "lost")
        game.rules_of("a").append("x")
        game.turned("a")
        self.assertEqual(lists, copies)

    def test_what_is_refused_stays_as_it_was(self):
        lists = [["k", "a"], [RULE, OTHER_RULE, RULE], [("a", "k")], [("home", "x"), ("home", "a")]]
        copies = [list(part) for part in lists]
        with self.assertRaises(BadGame):
            Game(BOARD, *lists, "lost")
        self.assertEqual(lists, copies)

    def test_what_was_handed_in_may_be_changed_later(self):
        kinds, rules, turns, ends = ["k", "a"], [RULE, OTHER_RULE], [("a", "k")], [("home", "k")]
        game = Game(BOARD, kinds, rules, turns, ends, "lost")
        kinds[0] = "z"
        rules.insert(0, ("a", "slide", "any", 1, 1))
        turns.clear()
        ends.append(None)
        self.assertEqual(fields_of(game)[3:], (["k", "a"], [RULE, OTHER_RULE], [("a", "k")], [("home", "k")], "lost"))
        self.assertEqual(game.rules_of("a"), [RULE])
        self.assertEqual(game.turned("a"), "k")

    def test_each_list_is_the_askers_own(self):
        game = hunt()
        told = game.rules_of("p")
        again = game.rules_of("p")
        self.assertEqual(told, again)
        again.clear()
        self.assertEqual(told, game.rules_of("p"))
        told.append("x")
        told[0] = "y"
        self.assertEqual(fields_of(game), fields_of(hunt()))
        self.assertEqual(game.rules_of("p"), hunt().rules_of("p"))
        nothing = game.rules_of("x")
        nothing.append("x")
        self.assertEqual((game.rules_of("x"), game.rules_of("y")), ([], []))

    def test_two_games_keep_their_own(self):
        kinds = ["a", "b"]
        one = Game(BOARD, kinds, [("a", "leap", "go", 1, 0)], [("a", "b")], [], "lost")
        other = Game(BOARD, kinds, [("a", "leap", "go", 2, 0)], [("b", "a")], [], "won")
        for _ in range(2):
            self.assertEqual(one.rules_of("a"), [("a", "leap", "go", 1, 0)])
            self.assertEqual(other.rules_of("a"), [("a", "leap", "go", 2, 0)])
            self.assertEqual((one.turned("a"), one.turned("b")), ("b", "b"))
            self.assertEqual((other.turned("a"), other.turned("b")), ("a", "a"))


class TestAsking(unittest.TestCase):
    def test_rules_of_each_letter(self):
        for game in games():
            for letter in LETTERS:
                told = []
                for rule in game.rules:
                    if rule[0] == letter:
                        told.append(rule)
                self.assertEqual(game.rules_of(letter), told)
                self.assertIs(type(game.rules_of(letter)), list)

    def test_rules_written_out(self):
        game = hunt()
        self.assertEqual(game.rules_of("k"), [("k", "leap", "any", 0, 1), ("k", "leap", "any", -3, 2)])
        self.assertEqual(game.rules_of("r"), [("r", "slide", "any", 1, 0), ("r", "slide", "go", 0, -1)])
        self.assertEqual(game.rules_of("p"), [("p", "leap", "go", 0, 1), ("p", "leap", "hit", -1, 1), ("p", "leap", "go", 0, 1)])
        self.assertEqual(game.rules_of("x"), [])

    def test_turned(self):
        game = hunt()
        self.assertEqual((game.turned("p"), game.turned("m")), ("r", "k"))
        for letter in LETTERS:
            if letter not in "pm":
                self.assertEqual(game.turned(letter), letter)

    def test_turned_where_there_are_no_turns(self):
        game = made()
        for letter in LETTERS:
            self.assertEqual(game.turned(letter), letter)


if __name__ == "__main__":
    unittest.main()
