import itertools
import unittest

from playboard.boards import Board
from playboard.games import Game
from playboard.places import put
from playboard.reach import goals
from samples import fields_of, games, pairs_by_columns, places


def with_rules(board, *rules):
    return Game(board, ["a", "b"], list(rules), [], [], "lost")


class TestAgainstColumns(unittest.TestCase):
    def check_row(self, game, row):
        for square, sign in enumerate(row):
            if sign not in ".#":
                self.assertEqual(goals(game, row, square), pairs_by_columns(game, row, square), (row, square, game.rules))

    def test_games(self):
        for game in games():
            for row, _ in places(game, 120):
                self.check_row(game, row)

    def test_each_sort_aim_and_step(self):
        for holes in ([], [7, 16]):
            board = Board(5, 4, holes)
            for sort, aim in itertools.product(["leap", "slide", "jump"], ["go", "hit", "any"]):
                reach = range(-3, 4) if sort == "leap" else range(-1, 2)
                for across, up in itertools.product(reach, repeat=2):
                    if (across, up) != (0, 0) and (sort != "jump" or aim == "hit"):
                        game = with_rules(board, ("a", sort, aim, across, up))
                        for row, _ in places(game, 12):
                            self.check_row(game, row)

    def test_all_rows_of_small_boards(self):
        for board in (Board(5, 1, []), Board(5, 1, [3]), Board(1, 5, [])):
            across, up = (1, 0) if board.high == 1 else (0, 1)
            for sort, aim in (("leap", "any"), ("slide", "go"), ("slide", "hit"), ("slide", "any"), ("jump", "hit")):
                game = with_rules(board, ("a", sort, aim, across, up))
                for signs in itertools.product(".aAB", repeat=5):
                    row = "".join("#" if square in board.holes else sign for square, sign in enumerate(signs))
                    self.check_row(game, row)


class TestLeaps(unittest.TestCase):
    def test_each_aim(self):
        board = Board(3, 3, [])
        told = {"go": [[(7, -1)], [], []], "hit": [[], [(7, 7)], []], "any": [[(7, -1)], [(7, 7)], []]}
        for aim, pairs in told.items():
            game = with_rules(board, ("a", "leap", aim, 0, 1))
            for sign, expected in zip(".bB", pairs):
                self.assertEqual(goals(game, put("....A....", 7, sign), 4), expected)

    def test_up_is_seen_from_the_side_that_moves(self):
        game = with_rules(Board(3, 3, []), ("a", "leap", "any", 1, 1))
        self.assertEqual(goals(game, "....A....", 4), [(8, -1)])
        self.assertEqual(goals(game, "....a....", 4), [(2, -1)])
        game = with_rules(Board(4, 7, []), ("a", "leap", "any", -2, -3))
        self.assertEqual(goals(game, put("." * 28, 14, "A"), 14), [(0, -1)])
        self.assertEqual(goals(game, put("." * 28, 14, "a"), 14), [(24, -1)])

    def test_off_the_board_over_and_onto_holes(self):
        game = with_rules(Board(3, 3, [4]), ("a", "leap", "any", 0, 1), ("b", "leap", "any", 0, 2))
        self.assertEqual(goals(game, "...A#....", 3), [(6, -1)])
        self.assertEqual(goals(game, "....#A...", 5), [(8, -1)])
        self.assertEqual(goals(game, ".A..#....", 1), [])
        self.assertEqual(goals(game, "....#..A.", 7), [])
        self.assertEqual(goals(game, ".B..#....", 1), [(7, -1)])
        self.assertEqual(goals(game, ".B..#..b.", 1), [(7, 7)])
        self.assertEqual(goals(game, "...B#....", 3), [])

    def test_a_leap_minds_no_piece_between(self):
        game = with_rules(Board(1, 4, []), ("a", "leap", "any", 0, 3))
        for between in ("..", "bB", "Ab", "aa"):
            self.assertEqual(goals(game, "A" + between + ".", 0), [(3, -1)])
            self.assertEqual(goals(game, "A" + between + "b", 0), [(3, 3)])
            self.assertEqual(goals(game, "A" + between + "B", 0), [])


class TestSlides(unittest.TestCase):
    def test_up_to_the_first_piece(self):
        told = {"go": ([(1, -1), (2, -1)], [(1, -1), (2, -1)]), "hit": ([(3, 3)], []), "any": ([(1, -1), (2, -1), (3, 3)], [(1, -1), (2, -1)])}
        for aim, (onto_other, onto_own) in told.items():
            game = with_rules(Board(6, 1, []), ("a", "slide", aim, 1, 0))
            self.assertEqual(goals(game, "A..b.b", 0), onto_other)
            self.assertEqual(goals(game, "A..B.b", 0), onto_own)

    def test_first_square_is_taken(self):
        for aim, pairs in (("go", []), ("hit", [(1, 1)]), ("any", [(1, 1)])):
            game = with_rules(Board(4, 1, []), ("a", "slide", aim, 1, 0))
            self.assertEqual(goals(game, "Ab..", 0), pairs)
            self.assertEqual(goals(game, "AB..", 0), [])

    def test_to_the_end_and_to_a_hole(self):
        game = with_rules(Board(6, 1, [3]), ("a", "slide", "any", 1, 0), ("b", "slide", "any", -1, 0))
        self.assertEqual(goals(game, "A..#..", 0), [(1, -1), (2, -1)])
        self.assertEqual(goals(game, "..A#b.", 2), [])
        self.assertEqual(goals(game, "...#A.", 4), [(5, -1)])
        self.assertEqual(goals(game, "a..#.B", 5), [(4, -1)])

    def test_up_is_seen_from_the_side_that_moves(self):
        game = with_rules(Board(1, 5, []), ("a", "slide", "any", 0, 1))
        self.assertEqual(goals(game, "..A..", 2), [(3, -1), (4, -1)])
        self.assertEqual(goals(game, "..a..", 2), [(0, -1), (1, -1)])

    def test_pieces_of_both_sides_look_from_their_own(self):
        game = with_rules(Board(5, 1, []), ("a", "slide", "hit", 1, 0))
        self.assertEqual(goals(game, "a..B.", 0), [(3, 3)])
        self.assertEqual(goals(game, "a..b.", 0), [])


class TestJumps(unittest.TestCase):
    def setUp(self):
        self.game = with_rules(Board(4, 1, []), ("a", "jump", "hit", 1, 0))

    def test_over_the_other_side_onto_an_empty_square(self):
        self.assertEqual(goals(self.game, "Ab..", 0), [(2, 1)])
        self.assertEqual(goals(self.game, "aB..", 0), [(2, 1)])

    def test_not_over_its_own_or_nothing(self):
        self.assertEqual(goals(self.game, "AB..", 0), [])
        self.assertEqual(goals(self.game, "ab..", 0), [])
        self.assertEqual(goals(self.game, "A...", 0), [])
        self.assertEqual(goals(self.game, "A.b.", 0), [])

    def test_not_onto_what_is_not_empty(self):
        self.assertEqual(goals(self.game, "Abb.", 0), [])
        self.assertEqual(goals(self.game, "AbB.", 0), [])

    def test_not_off_the_board(self):
        self.assertEqual(goals(self.game, "..Ab", 2), [])
        self.assertEqual(goals(self.game, "...A", 3), [])

    def test_not_onto_or_over_a_hole(self):
        game = with_rules(Board(4, 1, [2]), ("a", "jump", "hit", 1, 0))
        self.assertEqual(goals(game, "Ab#.", 0), [])
        self.assertEqual(goals(game, ".A#b", 1), [])

    def test_up_is_seen_from_the_side_that_moves(self):
        game = with_rules(Board(3, 5, []), ("a", "jump", "hit", -1, 1))
        self.assertEqual(goals(game, "....b...A.b....", 8), [(12, 10)])
        self.assertEqual(goals(game, "....B...a.B....", 8), [(0, 4)])
        self.assertEqual(goals(game, "....b...A......", 8), [])
        self.assertEqual(goals(game, "........a.B....", 8), [])


class TestPairs(unittest.TestCase):
    def test_each_pair_once(self):
        game = with_rules(
            Board(4, 1, []), ("a", "slide", "any", 1, 0), ("a", "leap", "go", 2, 0), ("a", "leap", "any", 1, 0),
            ("a", "slide", "go", 1, 0), ("a", "leap", "any", 1, 0),
        )
        self.assertEqual(goals(game, "A...", 0), [(1, -1), (2, -1), (3, -1)])
        self.assertEqual(goals(game, "Ab..", 0), [(1, 1), (2, -1)])

    def test_one_goal_with_and_without_a_taken_piece(self):
        game = with_rules(Board(4, 1, []), ("a", "jump", "hit", 1, 0), ("a", "leap", "any", 2, 0), ("a", "jump", "hit", 1, 0))
        self.assertEqual(goals(game, "Ab..", 0), [(2, -1), (2, 1)])

    def test_rising_whatever_the_order_of_the_rules_is(self):
        rules = [("a", "leap", "any", across, up) for across in (-1, 0, 1) for up in (-1, 1)]
        for order in itertools.permutations(rules):
            game = with_rules(Board(3, 3, []), *order)
            self.assertEqual(goals(game, "b...A...b", 4), [(0, 0), (1, -1), (2, -1), (6, -1), (7, -1), (8, 8)])

    def test_a_kind_without_rules(self):
        game = with_rules(Board(3, 1, []), ("a", "leap", "any", 1, 0))
        self.assertEqual(goals(game, "B..", 0), [])

    def test_pairs_are_tuples_of_whole_numbers(self):
        game = with_rules(Board(3, 1, []), ("a", "leap", "any", 1, 0))
        for pair in goals(game, "A..", 0):
            self.assertEqual([type(pair)] + [type(part) for part in pair], [tuple, int, int])

    def test_each_list_is_the_askers_own(self):
        game = with_rules(Board(4, 1, []), ("a", "slide", "any", 1, 0))
        before = fields_of(game)
        told = goals(game, "A...", 0)
        again = goals(game, "A...", 0)
        again.clear()
        goals(game, "Ab..", 0)
        self.assertEqual(told, [(1, -1), (2, -1), (3, -1)])
        told.append("x")
        self.assertEqual(goals(game, "A...", 0), [(1, -1), (2, -1), (3, -1)])
        self.assertEqual(fields_of(game), before)

    def test_two_games_asked_by_turns(self):
        board = Board(4, 1, [])
        one = with_rules(board, ("a", "slide", "any", 1, 0))
        other = with_rules(board, ("a", "leap", "any", 2, 0))
        for _ in range(3):
            self.assertEqual(goals(one, "A...", 0), [(1, -1), (2, -1), (3, -1)])
            self.assertEqual(goals(other, "A...", 0), [(2, -1)])


if __name__ == "__main__":
    unittest.main()
