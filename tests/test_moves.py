import itertools
import unittest

from playboard.boards import Board
from playboard.errors import NoMove
from playboard.games import Game
from playboard.moves import done, moves
from playboard.places import is_place
from samples import done_by_signs, fields_of, games, hunt, moves_by_columns, places

ALL_WAYS = [("a", "leap", "any", across, up) for across in (-1, 0, 1) for up in (-1, 0, 1) if (across, up) != (0, 0)]


class TestMoves(unittest.TestCase):
    def test_against_columns(self):
        for game in games():
            for row, _ in places(game, 120):
                for side in (0, 1):
                    told = moves(game, (row, side))
                    self.assertEqual(told, moves_by_columns(game, (row, side)), (row, side))
                    self.assertEqual(told, sorted(set(told)))

    def test_written_out(self):
        game = Game(Board(3, 2, []), ["a"], ALL_WAYS[:3], [], [], "lost")
        self.assertEqual(game.rules, [("a", "leap", "any", -1, up) for up in (-1, 0, 1)])
        self.assertEqual(moves(game, ("aAA..a", 0)), [(1, 0, 0), (1, 3, -1), (2, 4, -1)])
        self.assertEqual(moves(game, ("aAA..a", 1)), [(5, 1, 1), (5, 4, -1)])

    def test_rising_by_start_goal_and_taken(self):
        rules = [("a", "jump", "hit", 1, 0), ("a", "leap", "any", 2, 0), ("a", "slide", "any", -1, 0)]
        game = Game(Board(6, 1, []), ["a"], rules, [], [], "lost")
        self.assertEqual(moves(game, (".Aa.A.", 0)), [(1, 0, -1), (1, 3, -1), (1, 3, 2), (4, 2, 2), (4, 3, -1)])

    def test_no_pieces_and_none_that_can_move(self):
        game = Game(Board(2, 2, []), ["a", "b"], ALL_WAYS, [], [], "lost")
        self.assertEqual(moves(game, ("....", 0)), [])
        self.assertEqual(moves(game, ("aaaa", 0)), [])
        self.assertEqual(moves(game, ("aaaa", 1)), [])
        self.assertEqual(moves(game, ("B...", 0)), [])

    def test_also_where_the_place_is_over(self):
        for ends in ([], [("without", "b")], [("home", "a")], [("without", "a"), ("home", "a")]):
            game = Game(Board(2, 2, []), ["a", "b"], ALL_WAYS, [], ends, "lost")
            self.assertEqual(moves(game, ("..Aa", 0)), [(2, 0, -1), (2, 1, -1), (2, 3, 3)])
            self.assertEqual(moves(game, ("A...", 0)), [(0, 1, -1), (0, 2, -1), (0, 3, -1)])
            self.assertEqual(moves(game, ("A...", 1)), [])
            self.assertEqual(done(game, ("..Aa", 0), (2, 3, 3)), ("...A", 1))

    def test_each_list_is_the_askers_own(self):
        game = hunt()
        place = ("#K..R..#pmkr", 0)
        told = moves(game, place)
        copy = list(told)
        self.assertNotEqual(told, [])
        moves(game, place).clear()
        done(game, place, told[0])
        self.assertEqual(told, copy)
        told.append("x")
        self.assertEqual(moves(game, place), copy)
        self.assertEqual(fields_of(game), fields_of(hunt()))

    def test_two_games_asked_by_turns(self):
        board = Board(4, 1, [])
        one = Game(board, ["a", "b"], [("a", "leap", "any", 1, 0)], [("a", "b")], [], "lost")
        other = Game(board, ["a", "b"], [("a", "leap", "any", 2, 0)], [], [], "lost")
        for _ in range(3):
            self.assertEqual(moves(one, ("A...", 0)), [(0, 1, -1)])
            self.assertEqual(moves(other, ("A...", 0)), [(0, 2, -1)])
            self.assertEqual(done(one, ("A...", 0), (0, 1, -1)), (".B..", 1))
            self.assertEqual(done(other, ("A...", 0), (0, 2, -1)), ("..A.", 1))
            with self.assertRaises(NoMove):
                done(one, ("A...", 0), (0, 2, -1))
            with self.assertRaises(NoMove):
                done(other, ("A...", 0), (0, 1, -1))


class TestDone(unittest.TestCase):
    def test_against_signs(self):
        for game in games():
            for row, _ in places(game, 60):
                for side in (0, 1):
                    for move in moves(game, (row, side)):
                        told = done(game, (row, side), move)
                        self.assertEqual(told, done_by_signs(game, (row, side), move))
                        self.assertIs(is_place(game, told), True)

    def test_the_three_forms(self):
        rules = [("a", "leap", "any", 1, 0), ("a", "jump", "hit", 1, 0)]
        game = Game(Board(4, 2, []), ["a", "b"], rules, [], [], "lost")
        self.assertEqual(done(game, ("A.bB...b", 0), (0, 1, -1)), (".AbB...b", 1))
        self.assertEqual(done(game, ("Ab.B...b", 0), (0, 1, 1)), (".A.B...b", 1))
        self.assertEqual(done(game, ("Ab.B...b", 0), (0, 2, 1)), ("..AB...b", 1))
        self.assertEqual(done(game, ("aB..b..B", 1), (0, 2, 1)), ("..a.b..B", 0))

    def test_turned_on_the_far_row(self):
        game = Game(Board(2, 3, []), ["a", "b"], ALL_WAYS, [("a", "b")], [], "lost")
        self.assertEqual(done(game, ("..A...", 0), (2, 4, -1)), ("....B.", 1))
        self.assertEqual(done(game, ("..A.b.", 0), (2, 4, 4)), ("....B.", 1))
        self.assertEqual(done(game, ("..a...", 1), (2, 0, -1)), ("b.....", 0))
        self.assertEqual(done(game, ("Aaa...", 1), (2, 0, 0)), ("ba....", 0))

    def test_turned_by_a_jump_and_by_a_slide(self):
        rules = [("a", "jump", "hit", 0, 1), ("a", "slide", "any", 0, 1)]
        game = Game(Board(1, 4, []), ["a", "b"], rules, [("a", "b")], [], "lost")
        self.assertEqual(done(game, (".Ab.", 0), (1, 3, 2)), ("...B", 1))
        self.assertEqual(done(game, ("A...", 0), (0, 3, -1)), ("...B", 1))
        self.assertEqual(done(game, ("A...", 0), (0, 2, -1)), ("..A.", 1))
        self.assertEqual(done(game, (".Ba.", 1), (2, 0, 1)), ("b...", 0))

    def test_not_turned_on_other_rows(self):
        game = Game(Board(2, 3, []), ["a", "b"], ALL_WAYS, [("a", "b")], [], "lost")
        self.assertEqual(done(game, ("..A...", 0), (2, 0, -1)), ("A.....", 1))
        self.assertEqual(done(game, ("..a...", 1), (2, 4, -1)), ("....a.", 0))
        self.assertEqual(done(game, ("A.....", 0), (0, 2, -1)), ("..A...", 1))

    def test_turned_if_it_moves_along_the_far_row(self):
        game = Game(Board(2, 3, []), ["a", "b"], ALL_WAYS, [("a", "b")], [], "lost")
        self.assertEqual(done(game, ("....A.", 0), (4, 5, -1)), (".....B", 1))
        self.assertEqual(done(game, ("a.....", 1), (0, 1, -1)), (".b....", 0))
        self.assertEqual(done(game, ("....A.", 0), (4, 2, -1)), ("..A...", 1))

    def test_one_row_is_the_far_row_of_either_side(self):
        game = Game(Board(3, 1, []), ["a", "b"], [("a", "leap", "any", 1, 0)], [("a", "b")], [], "lost")
        self.assertEqual(done(game, ("A..", 0), (0, 1, -1)), (".B.", 1))
        self.assertEqual(done(game, ("a..", 1), (0, 1, -1)), (".b.", 0))

    def test_other_kinds_and_other_pieces_stay(self):
        rules = ALL_WAYS + [("b",) + rule[1:] for rule in ALL_WAYS]
        game = Game(Board(2, 2, []), ["a", "b", "c"], rules, [("a", "c")], [], "lost")
        self.assertEqual(done(game, ("B.A.", 0), (0, 3, -1)), ("..AB", 1))
        self.assertEqual(done(game, ("a.b.", 1), (2, 1, -1)), ("ab..", 0))
        self.assertEqual(done(game, ("Aa.A", 0), (0, 2, -1)), (".aCA", 1))

    def test_holes_stay(self):
        game = Game(Board(3, 1, [1]), ["a"], [("a", "leap", "any", 2, 0)], [], [], "lost")
        self.assertEqual(done(game, ("A#.", 0), (0, 2, -1)), (".#A", 1))

    def test_what_is_none_of_the_moves(self):
        game = Game(Board(3, 2, [4]), ["a", "b"], ALL_WAYS + [("a", "jump", "hit", 1, 0)], [("a", "b")], [], "lost")
        for row in ("Aa..#.", "A..a#b", "A...#.", "ABa.#."):
            for side in (0, 1):
                right = moves(game, (row, side))
                for move in itertools.product(range(-2, 8), repeat=3):
                    if move in right:
                        self.assertEqual(done(game, (row, side), move)[1], 1 - side)
                    else:
                        with self.assertRaises(NoMove):
                            done(game, (row, side), move)

    def test_moves_of_the_other_side(self):
        game = Game(Board(2, 2, []), ["a"], ALL_WAYS, [], [], "lost")
        for side in (0, 1):
            for move in moves(game, ("A..a", side)):
                with self.assertRaises(NoMove):
                    done(game, ("A..a", 1 - side), move)

    def test_great_numbers(self):
        game = Game(Board(2, 2, []), ["a"], ALL_WAYS, [], [], "lost")
        for number in (10 ** 30, -(10 ** 30), 64, -4):
            for move in ((number, 1, -1), (0, number, -1), (0, 1, number), (number, number, number)):
                with self.assertRaises(NoMove):
                    done(game, ("A...", 0), move)

    def test_nothing_is_changed(self):
        game = hunt()
        place = ("#K..R..#pmkr", 0)
        for move in moves(game, place):
            done(game, place, move)
        self.assertEqual(fields_of(game), fields_of(hunt()))
        self.assertEqual(moves(game, place), moves(hunt(), place))


if __name__ == "__main__":
    unittest.main()
