import itertools
import unittest
from unittest.mock import ANY

from playboard.boards import Board
from playboard.games import Game
from playboard.places import empty_row, is_place, kind_of, put, side_of, sign_of, squares_of
from samples import ODD_THINGS, games, places

LETTERS = "abcdefghijklmnopqrstuvwxyz"
SEEN_SIGNS = [chr(number) for number in range(32, 127)]


class TestSigns(unittest.TestCase):
    def test_sign_of_each_letter(self):
        for kind, capital in zip(LETTERS, "ABCDEFGHIJKLMNOPQRSTUVWXYZ"):
            self.assertEqual(sign_of(kind, 0), capital)
            self.assertEqual(sign_of(kind, 1), kind)

    def test_kind_of_and_side_of_each_sign(self):
        for kind, capital in zip(LETTERS, "ABCDEFGHIJKLMNOPQRSTUVWXYZ"):
            self.assertEqual((kind_of(capital), side_of(capital)), (kind, 0))
            self.assertEqual((kind_of(kind), side_of(kind)), (kind, 1))
            for side in (0, 1):
                self.assertEqual((kind_of(sign_of(kind, side)), side_of(sign_of(kind, side))), (kind, side))

    def test_neither_of_empty_squares_nor_of_holes(self):
        for sign in ".#":
            self.assertIsNone(kind_of(sign))
            self.assertIsNone(side_of(sign))

    def test_sides_are_whole_numbers(self):
        self.assertIs(type(side_of("A")), int)
        self.assertIs(type(side_of("a")), int)


class TestRows(unittest.TestCase):
    def test_empty_row_without_holes(self):
        for wide, high in itertools.product(range(1, 9), repeat=2):
            self.assertEqual(empty_row(Board(wide, high, [])), "." * (wide * high))

    def test_empty_row_with_holes(self):
        self.assertEqual(empty_row(Board(3, 2, [4, 0])), "#...#.")
        self.assertEqual(empty_row(Board(2, 2, [3, 1, 2])), ".###")
        for wide, high in itertools.product(range(1, 9), repeat=2):
            holes = list(range(0, wide * high - 1, 3))
            row = "".join("#" if square in holes else "." for square in range(wide * high))
            self.assertEqual(empty_row(Board(wide, high, holes)), row)

    def test_put_at_each_square(self):
        for row in ("......", "#Ab..#", "a"):
            for square in range(len(row)):
                for sign in "xX.":
                    signs = list(row)
                    signs[square] = sign
                    self.assertEqual(put(row, square, sign), "".join(signs))

    def test_squares_of(self):
        self.assertEqual(squares_of("A.b#Ba", 0), [0, 4])
        self.assertEqual(squares_of("A.b#Ba", 1), [2, 5])
        self.assertEqual((squares_of("..#.", 0), squares_of("..#.", 1)), ([], []))
        self.assertEqual((squares_of("", 0), squares_of("", 1)), ([], []))
        for game in games():
            for row, _ in places(game, 20):
                self.assertEqual(squares_of(row, 0), [at for at, sign in enumerate(row) if "A" <= sign <= "Z"])
                self.assertEqual(squares_of(row, 1), [at for at, sign in enumerate(row) if "a" <= sign <= "z"])

    def test_squares_are_the_askers_own(self):
        told = squares_of("A.B", 0)
        again = squares_of("A.B", 0)
        again.clear()
        self.assertEqual(told, [0, 2])
        told.append(1)
        self.assertEqual(squares_of("A.B", 0), [0, 2])


class TestIsPlace(unittest.TestCase):
    def setUp(self):
        self.game = Game(Board(3, 2, [4, 0]), ["k", "a"], [], [], [], "lost")

    def check(self, thing, truth):
        self.assertIs(is_place(self.game, thing), truth, thing)

    def test_places_of_games(self):
        for game in games():
            for place in places(game, 20):
                self.assertIs(is_place(game, place), True, place)
            for side in (0, 1):
                self.assertIs(is_place(game, (empty_row(game.board), side)), True)

    def test_all_rows_of_a_small_board(self):
        for signs in itertools.product(".#aAbB", repeat=4):
            row = "".join(signs)
            for holes, fits in (([], "#" not in row), ([2], row[2] == "#" and row.count("#") == 1)):
                game = Game(Board(2, 2, holes), ["a"], [], [], [], "lost")
                truth = fits and "b" not in row.lower()
                self.assertIs(is_place(game, (row, 0)), truth, row)
                self.assertIs(is_place(game, (row, 1)), truth, row)

    def test_each_sign_at_each_square(self):
        row = "#..k#A"
        self.check((row, 0), True)
        for square in range(6):
            for sign in SEEN_SIGNS:
                truth = sign == "#" if square in (0, 4) else sign in ".kKaA"
                self.check((put(row, square, sign), 1), truth)

    def test_a_sign_less_or_more(self):
        row = "#..k#A"
        for square in range(7):
            for sign in ".#kA":
                self.check((row[:square] + sign + row[square:], 0), False)
            self.check((row[:square] + row[square + 1:], 0), square == 6)
            self.check((row[:square], 0), square == 6)
        self.check(("", 0), False)
        self.check((row + row, 0), False)

    def test_signs_that_only_seem_to_be_capitals(self):
        # The sign for a degree Kelvin is K's, made small.
        self.check(("#\u212a...", 0), False)
        self.check(("#\u212a..#.", 0), False)

    def test_sides_that_are_none(self):
        row = "#..k#A"
        self.check((row, 0), True)
        self.check((row, 1), True)
        for side in [2, -1, 3, 10 ** 30, True, False, None, "", "0", "1", "first", [], [0], (), (0,), 0.0, 1.0, {}, ANY]:
            self.check((row, side), False)

    def test_what_is_no_pair(self):
        row = "#..k#A"
        for thing in ((row,), (), (row, 0, 0), (row, 0, None), (0, row), row, (row, row), [row, 0], [row, 1], {row: 0}):
            self.check(thing, False)
        for thing in ODD_THINGS + [ANY]:
            self.check(thing, False)
            self.check((thing, 0), False)
            self.check((thing, thing), False)

    def test_a_pair_whose_first_is_no_text(self):
        for thing in (None, 0, list("#..k#A"), tuple("#..k#A"), b"#..k#A", {"#..k#A": 0}, ANY, [], True):
            self.check((thing, 0), False)
            self.check((thing, 1), False)

    def test_nothing_is_changed(self):
        pair = ["#..k#A", 0]
        self.check(pair, False)
        self.assertEqual(pair, ["#..k#A", 0])
        self.assertEqual(self.game.kinds, ["k", "a"])
        self.assertEqual(self.game.board.holes, [0, 4])


if __name__ == "__main__":
    unittest.main()
