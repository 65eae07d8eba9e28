import unittest

from playboard.boards import Board
from playboard.rays import ray

STEPS = [(across, up) for across in range(-3, 4) for up in range(-3, 4) if (across, up) != (0, 0)]


def by_columns(board, square, across, up):
    """The same told by columns and rows, without the board's own moving."""
    column, row = square % board.wide, square // board.wide
    come_to = []
    while True:
        column, row = column + across, row + up
        here = row * board.wide + column
        if column not in range(board.wide) or row not in range(board.high) or here in board.holes:
            return come_to
        come_to.append(here)


class TestRays(unittest.TestCase):
    def check_all(self, board):
        for square in board.squares():
            for across, up in STEPS:
                told = ray(board, square, across, up)
                self.assertEqual(told, by_columns(board, square, across, up), (board.holes, square, across, up))

    def test_without_holes(self):
        for wide in range(1, 9):
            for high in range(1, 9):
                self.check_all(Board(wide, high, []))

    def test_with_holes(self):
        for wide in range(1, 9):
            for high in range(1, 9):
                for apart in (2, 3, 5, 7):
                    self.check_all(Board(wide, high, list(range(1, wide * high, apart))))
        for hole in range(25):
            self.check_all(Board(5, 5, [hole]))

    def test_written_out(self):
        board = Board(5, 3, [8])
        self.assertEqual(ray(board, 0, 1, 0), [1, 2, 3, 4])
        self.assertEqual(ray(board, 4, -1, 0), [3, 2, 1, 0])
        self.assertEqual(ray(board, 0, 0, 1), [5, 10])
        self.assertEqual(ray(board, 10, 0, -1), [5, 0])
        self.assertEqual(ray(board, 0, 1, 1), [6, 12])
        self.assertEqual(ray(board, 0, 2, 0), [2, 4])
        self.assertEqual(ray(board, 0, 2, 1), [7, 14])
        self.assertEqual(ray(board, 14, -3, 0), [11])

    def test_up_to_a_hole(self):
        board = Board(5, 3, [8])
        self.assertEqual(ray(board, 5, 1, 0), [6, 7])
        self.assertEqual(ray(board, 7, 1, 0), [])
        self.assertEqual(ray(board, 9, -1, 0), [])
        self.assertEqual(ray(board, 3, 0, 1), [])
        self.assertEqual(ray(board, 13, 0, -1), [])

    def test_a_step_goes_beside_a_hole_or_beyond_it(self):
        board = Board(5, 3, [8])
        self.assertEqual(ray(board, 5, 2, 0), [7, 9])
        self.assertEqual(ray(board, 3, 0, 2), [13])

    def test_none_where_the_first_is_off_the_board(self):
        board = Board(3, 3, [])
        for square, across, up in ((2, 1, 0), (5, 1, 0), (8, 1, 0), (6, 0, 1), (0, -1, 0), (1, 0, -1), (4, 2, 0), (0, 3, 0)):
            self.assertEqual(ray(board, square, across, up), [])

    def test_a_step_that_leads_nowhere_comes_to_nothing(self):
        self.assertEqual(ray(Board(3, 3, []), 4, 0, 0), [])

    def test_each_list_is_the_askers_own(self):
        board = Board(3, 1, [])
        told = ray(board, 0, 1, 0)
        again = ray(board, 0, 1, 0)
        again.clear()
        self.assertEqual(told, [1, 2])
        told.append(9)
        self.assertEqual(ray(board, 0, 1, 0), [1, 2])
        self.assertEqual(board.squares(), [0, 1, 2])


if __name__ == "__main__":
    unittest.main()
