import itertools
import unittest

from playboard.boards import Board
from playboard.ends import ending, followers
from playboard.games import Game
from playboard.moves import done, moves
from playboard.places import put
from samples import STEPS, ending_by_signs, fields_of, followers_by_signs, games, hunt, places, played

WALKS = [(kind, "leap", "any", across, up) for kind in "ab" for across, up in STEPS]


def ending_with(ends, stuck="even", rules=WALKS, board=(3, 3)):
    return Game(Board(board[0], board[1], []), ["a", "b", "c"], rules, [], ends, stuck)


class TestAgainstSigns(unittest.TestCase):
    def check(self, game, place):
        self.assertEqual(ending(game, place), ending_by_signs(game, place), (place, game.ends))
        self.assertEqual(followers(game, place), followers_by_signs(game, place), (place, game.ends))

    def test_games(self):
        for game in games() + [game for game, _ in played()]:
            for row, _ in places(game, 120):
                self.check(game, (row, 0))
                self.check(game, (row, 1))

    def test_all_rows_of_a_small_board_by_all_pairs_of_ends(self):
        single = [(word, kind) for word in ("without", "home") for kind in "ab"]
        rules = [("a", "leap", "any", 0, 1), ("b", "leap", "go", 1, 0)]
        for ends in [[]] + [[end] for end in single] + [list(pair) for pair in itertools.product(single, repeat=2)]:
            game = Game(Board(2, 2, []), ["a", "b"], rules, [], ends, "even")
            for signs in itertools.product(".aAbB", repeat=4):
                self.check(game, ("".join(signs), 0))
                self.check(game, ("".join(signs), 1))


class TestWithout(unittest.TestCase):
    def test_of_either_side_by_either_side_to_move(self):
        game = ending_with([("without", "a")])
        self.assertIsNone(ending(game, ("A.......a", 0)))
        self.assertIsNone(ending(game, ("A.......a", 1)))
        self.assertEqual(ending(game, ("B.......a", 0)), "lost")
        self.assertEqual(ending(game, ("B.......a", 1)), "won")
        self.assertEqual(ending(game, ("A.......b", 0)), "won")
        self.assertEqual(ending(game, ("A.......b", 1)), "lost")

    def test_where_neither_side_has_one_who_is_to_move_has_lost(self):
        game = ending_with([("without", "c")])
        for row in ("A.......a", "B.......b", "........."):
            self.assertEqual(ending(game, (row, 0)), "lost")
            self.assertEqual(ending(game, (row, 1)), "lost")

    def test_several_of_a_kind(self):
        game = ending_with([("without", "a")])
        self.assertIsNone(ending(game, ("AA....aaa", 0)))
        self.assertEqual(ending(game, ("AA....bbb", 1)), "lost")


class TestHome(unittest.TestCase):
    def test_of_either_side_by_either_side_to_move(self):
        game = ending_with([("home", "a")])
        for square in (6, 7, 8):
            row = put("..A......", square, "A")
            self.assertEqual(ending(game, (row, 0)), "won")
            self.assertEqual(ending(game, (row, 1)), "lost")
        for square in (0, 1, 2):
            row = put("......a..", square, "a")
            self.assertEqual(ending(game, (row, 0)), "lost")
            self.assertEqual(ending(game, (row, 1)), "won")

    def test_the_other_row_and_the_other_kind_are_not_home(self):
        game = ending_with([("home", "a")])
        for row in ("A.......a", ".A.A.a.a.", "b.A...a.B", "bbbA.aBBB"):
            for side in (0, 1):
                self.assertIsNone(ending(game, (row, side)), row)

    def test_where_both_are_home_who_is_to_move_has_lost(self):
        game = ending_with([("home", "a")])
        self.assertEqual(ending(game, ("a.......A", 0)), "lost")
        self.assertEqual(ending(game, ("a.......A", 1)), "lost")

    def test_one_row_is_the_far_row_of_either_side(self):
        game = ending_with([("home", "a")], board=(4, 1))
        self.assertEqual(ending(game, ("A..b", 0)), "won")
        self.assertEqual(ending(game, ("A..b", 1)), "lost")
        self.assertEqual(ending(game, ("A..a", 0)), "lost")
        self.assertEqual(ending(game, ("A..a", 1)), "lost")

    def test_a_kind_that_neither_side_has(self):
        game = ending_with([("home", "c")])
        for side in (0, 1):
            self.assertIsNone(ending(game, ("a.......A", side)))


class TestSeveralEnds(unittest.TestCase):
    def test_the_first_one_that_tells_a_word_tells_it(self):
        row = "..A...b.."
        told = {("without", "a"): ["won", "lost"], ("without", "b"): ["lost", "won"], ("home", "a"): [None, None]}
        for ends in itertools.permutations(told):
            game = ending_with(list(ends))
            words = [told[end] for end in ends if told[end] != [None, None]][0]
            self.assertEqual([ending(game, (row, side)) for side in (0, 1)], words, ends)

    def test_a_home_ahead_of_a_without_and_behind_it(self):
        row = "......A.."
        game = ending_with([("home", "a"), ("without", "b")])
        self.assertEqual([ending(game, (row, side)) for side in (0, 1)], ["won", "lost"])
        game = ending_with([("without", "b"), ("home", "a")])
        self.assertEqual([ending(game, (row, side)) for side in (0, 1)], ["lost", "lost"])

    def test_alike_ones(self):
        for ends in ([("without", "a")] * 6, [("home", "b"), ("home", "b"), ("without", "a"), ("without", "a")]):
            game = ending_with(ends)
            self.assertEqual(ending(game, ("B.......a", 0)), "lost")
            self.assertEqual(ending(game, ("B.......a", 1)), "won")
            self.assertIsNone(ending(game, ("A.......a", 0)))

    def test_no_end_tells_a_word(self):
        game = ending_with([("without", "a"), ("home", "b"), ("without", "b"), ("home", "a")])
        for side in (0, 1):
            self.assertIsNone(ending(game, ("AB.....ab", side)))
            self.assertEqual(len(followers(game, ("AB.....ab", side))), len(moves(game, ("AB.....ab", side))))


class TestStuck(unittest.TestCase):
    def test_each_word(self):
        for stuck in ("lost", "even", "won"):
            game = ending_with([], stuck)
            for place in (("c.......A", 1), ("C.......a", 0), ("AAAAAAAAA", 0), (".........", 0), (".........", 1)):
                self.assertEqual(ending(game, place), stuck)
                self.assertEqual(followers(game, place), [])
            self.assertIsNone(ending(game, ("C.......a", 1)))
            self.assertIsNone(ending(game, ("c.......A", 0)))

    def test_an_end_goes_ahead_of_the_stuck_word(self):
        for stuck in ("lost", "even", "won"):
            game = ending_with([("without", "c")], stuck)
            self.assertEqual(ending(game, ("C........", 0)), "won")
            self.assertEqual(ending(game, ("c........", 0)), "lost")
            self.assertEqual(ending(game, ("c...C....", 0)), stuck)
            game = ending_with([("home", "c"), ("home", "b")], stuck)
            self.assertEqual(ending(game, ("......C..", 0)), "won")
            self.assertEqual(ending(game, ("......C..", 1)), "lost")
            self.assertEqual(ending(game, ("...C.....", 0)), stuck)

    def test_who_has_no_rules(self):
        game = ending_with([], "won", rules=[])
        self.assertEqual(ending(game, ("A.......a", 0)), "won")
        self.assertEqual(followers(game, ("A.......a", 0)), [])


class TestFollowers(unittest.TestCase):
    def test_written_out(self):
        rules = [("a", "leap", "any", 1, 0), ("a", "leap", "go", 0, 1)]
        game = Game(Board(2, 2, []), ["a", "b"], rules, [("a", "b")], [], "lost")
        self.assertEqual(followers(game, ("A...", 0)), [(".A..", 1), ("..B.", 1)])
        self.assertEqual(followers(game, ("Ab..", 0)), [(".A..", 1), (".bB.", 1)])
        self.assertEqual(followers(game, ("A..a", 1)), [("Ab..", 0)])

    def test_behind_each_move_in_the_order_of_the_moves(self):
        for game, _ in played():
            for place in places(game, 80):
                if ending(game, place) is None:
                    told = [done(game, place, move) for move in moves(game, place)]
                    self.assertEqual(followers(game, place), told)
                    self.assertNotEqual(told, [])

    def test_none_where_it_is_over_also_where_there_are_moves(self):
        game = ending_with([("without", "a"), ("home", "b")])
        for place in (("A........", 0), ("A........", 1), ("B.......a", 0), ("b.A.....a", 1), ("b.A.....a", 0)):
            self.assertIsNotNone(ending(game, place))
            self.assertEqual(followers(game, place), [])
        self.assertNotEqual(moves(game, ("A........", 0)), [])
        self.assertNotEqual(moves(game, ("b.A.....a", 1)), [])

    def test_each_list_is_the_askers_own(self):
        game = hunt()
        place = ("#K..R..#pmkr", 0)
        told = followers(game, place)
        copy = list(told)
        self.assertNotEqual(told, [])
        followers(game, place).clear()
        ending(game, place)
        self.assertEqual(told, copy)
        told.append("x")
        self.assertEqual(followers(game, place), copy)
        self.assertEqual(fields_of(game), fields_of(hunt()))


if __name__ == "__main__":
    unittest.main()
