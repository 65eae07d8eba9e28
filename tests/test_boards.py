import unittest

from playboard.boards import Board
from playboard.errors import BadBoard

SIDES = range(1, 9)
BOARDS = [(wide, high) for wide in SIDES for high in SIDES]
NO_NUMBERS = [True, False, None, "", "1", "a", [], [1], (), (1,), {}, {1: 1}, 1.0, b"1", object()]
NO_SQUARES = NO_NUMBERS + [-1, -2, -64, 10 ** 30, -(10 ** 30)]


class TestMaking(unittest.TestCase):
    def refused(self, wide, high, holes):
        with self.subTest(wide=wide, high=high, holes=holes):
            with self.assertRaises(BadBoard):
                Board(wide, high, holes)

    def test_each_size(self):
        for wide, high in BOARDS:
            board = Board(wide, high, [])
            self.assertEqual((board.wide, board.high, board.holes), (wide, high, []))

    def test_sizes_beside_the_bounds(self):
        for side in SIDES:
            for other in (0, 9, -1, -8, 10, 100, 10 ** 30, -(10 ** 30)):
                self.refused(side, other, [])
                self.refused(other, side, [])
        self.refused(0, 0, [])
        self.refused(9, 9, [])

    def test_sizes_that_are_no_whole_numbers(self):
        for thing in NO_NUMBERS:
            self.refused(thing, 3, [])
            self.refused(3, thing, [])
            self.refused(thing, thing, [])

    def test_all_is_wrong(self):
        for thing in NO_NUMBERS:
            if not isinstance(thing, list):
                self.refused(thing, thing, thing)

    def test_holes_in_any_order_are_told_rising(self):
        self.assertEqual(Board(3, 3, [7, 0, 4]).holes, [0, 4, 7])
        self.assertEqual(Board(3, 3, [0, 4, 7]).holes, [0, 4, 7])
        self.assertEqual(Board(8, 8, [63, 10, 9, 0]).holes, [0, 9, 10, 63])
        self.assertIs(type(Board(3, 3, [2, 1]).holes), list)

    def test_holes_that_are_no_list(self):
        for thing in (None, True, False, 0, 4, "", "0", "01", (), (0,), (0, 1), {}, {0: 0}, {0}, range(2), object()):
            self.refused(3, 3, thing)

    def test_a_hole_told_twice(self):
        self.refused(3, 3, [0, 0])
        self.refused(3, 3, [8, 2, 8])
        self.refused(3, 3, [1, 2, 3, 2, 1])
        self.refused(2, 2, [1] * 10)

    def test_holes_off_the_board(self):
        for wide, high in BOARDS:
            self.refused(wide, high, [-1])
            self.refused(wide, high, [wide * high])
        self.refused(3, 3, [0, 1, 9])
        self.refused(3, 3, [-9])
        self.refused(3, 3, [10 ** 30])
        self.refused(8, 8, [5, 64])

    def test_holes_that_are_no_whole_numbers(self):
        for thing in NO_NUMBERS:
            self.refused(3, 3, [thing])
            self.refused(3, 3, [5, thing])
            self.refused(3, 3, [thing, 5])
        self.refused(3, 3, [[0, 1]])
        self.refused(3, 3, [None, "a", [], {}])

    def test_all_squares_as_holes(self):
        for wide, high in BOARDS:
            every = list(range(wide * high))
            self.refused(wide, high, every)
            self.refused(wide, high, every[::-1])
            self.refused(wide, high, every + [0])

    def test_all_squares_but_one_as_holes(self):
        for wide, high in ((1, 2), (2, 1), (3, 3), (8, 8)):
            for left in range(wide * high):
                holes = [square for square in range(wide * high) if square != left]
                board = Board(wide, high, holes)
                self.assertEqual(board.holes, holes)
                self.assertEqual(board.squares(), [left])


class TestKeeping(unittest.TestCase):
    def test_what_is_handed_in_stays_as_it_was(self):
        holes = [7, 0, 4]
        board = Board(3, 3, holes)
        board.squares()
        board.moved(1, 1, 1)
        board.has(7)
        self.assertEqual(holes, [7, 0, 4])

    def test_what_is_refused_stays_as_it_was(self):
        holes = [7, 0, 7]
        with self.assertRaises(BadBoard):
            Board(3, 3, holes)
        self.assertEqual(holes, [7, 0, 7])

    def test_what_was_handed_in_may_be_changed_later(self):
        holes = [4, 0]
        board = Board(3, 3, holes)
        holes.append(1)
        holes[0] = 8
        self.assertEqual(board.holes, [0, 4])
        self.assertEqual(board.squares(), [1, 2, 3, 5, 6, 7, 8])
        self.assertIs(board.has(8), True)
        self.assertIs(board.has(4), False)
        self.assertEqual(board.moved(5, 0, 1), 8)
        self.assertIsNone(board.moved(5, -1, 0))

    def test_a_rising_list_is_not_kept_itself(self):
        holes = [0, 4]
        board = Board(3, 3, holes)
        holes.clear()
        self.assertEqual(board.holes, [0, 4])
        self.assertIs(board.has(0), False)

    def test_two_boards_of_one_list(self):
        holes = [1]
        one = Board(2, 2, holes)
        holes[0] = 2
        other = Board(2, 2, holes)
        self.assertEqual((one.holes, other.holes), ([1], [2]))
        self.assertEqual((one.squares(), other.squares()), ([0, 2, 3], [0, 1, 3]))

    def test_squares_are_the_askers_own(self):
        board = Board(2, 2, [1])
        told = board.squares()
        told.append(99)
        told[0] = 1
        self.assertEqual(board.squares(), [0, 2, 3])
        self.assertIs(board.has(0), True)
        self.assertIs(board.has(1), False)
        self.assertEqual(board.moved(2, 0, -1), 0)
        self.assertEqual(told, [1, 2, 3, 99])

    def test_squares_that_were_told_stay(self):
        board = Board(2, 2, [1])
        told = board.squares()
        again = board.squares()
        self.assertIsNot(told, again)
        again.clear()
        board.moved(0, 1, 1)
        self.assertEqual(told, [0, 2, 3])


class TestAsking(unittest.TestCase):
    def test_has_each_square_but_holes(self):
        for wide, high in BOARDS:
            holes = list(range(0, wide * high - 1, 3))
            board = Board(wide, high, holes)
            for square in range(-70, 140):
                truth = 0 <= square < wide * high and square not in holes
                self.assertIs(board.has(square), truth, (wide, high, square))

    def test_has_nothing_else(self):
        for board in (Board(1, 2, []), Board(3, 3, [0]), Board(8, 8, [])):
            for thing in NO_SQUARES:
                with self.subTest(thing=thing):
                    self.assertIs(board.has(thing), False)

    def test_squares(self):
        for wide, high in BOARDS:
            self.assertEqual(Board(wide, high, []).squares(), list(range(wide * high)))
        self.assertEqual(Board(3, 3, [8, 4, 0]).squares(), [1, 2, 3, 5, 6, 7])
        self.assertEqual(Board(2, 1, [0]).squares(), [1])

    def test_moved_in_all_directions(self):
        board = Board(3, 3, [])
        for across, up, goal in (
            (0, 1, 7), (1, 1, 8), (1, 0, 5), (1, -1, 2), (0, -1, 1), (-1, -1, 0), (-1, 0, 3), (-1, 1, 6), (0, 0, 4),
        ):
            with self.subTest(across=across, up=up):
                self.assertEqual(board.moved(4, across, up), goal)

    def test_moved_on_a_board_that_is_no_square(self):
        board = Board(4, 2, [])
        self.assertEqual(board.moved(0, 3, 1), 7)
        self.assertEqual(board.moved(7, -3, -1), 0)
        self.assertEqual(board.moved(1, 2, 1), 7)
        self.assertIsNone(board.moved(0, 0, 2))
        self.assertIsNone(board.moved(0, 4, 0))

    def test_moved_off_the_board_on_each_side(self):
        board = Board(3, 3, [])
        for square, across, up in (
            (3, -1, 0), (5, 1, 0), (7, 0, 1), (1, 0, -1), (0, -1, -1), (2, 1, -1), (6, -1, 1), (8, 1, 1),
            (2, 1, 0), (3, -1, 1), (5, 1, -1), (4, 2, 0), (4, -2, 0), (4, 0, 2), (4, 0, -2), (4, 3, -1), (4, -3, 1),
            (0, 10 ** 30, 0), (0, 0, -(10 ** 30)),
        ):
            with self.subTest(square=square, across=across, up=up):
                self.assertIsNone(board.moved(square, across, up))

    def test_moved_onto_a_hole_and_beyond_it(self):
        board = Board(3, 3, [4])
        for across, up, start in ((1, 0, 3), (-1, 0, 5), (0, 1, 1), (0, -1, 7), (1, 1, 0), (-1, -1, 8), (1, -1, 6), (-1, 1, 2)):
            with self.subTest(start=start):
                self.assertIsNone(board.moved(start, across, up))
                self.assertEqual(board.moved(start, 2 * across, 2 * up), 8 - start)

    def test_moved_each_way_on_each_board(self):
        for wide, high in BOARDS:
            holes = list(range(1, wide * high, 4))
            board = Board(wide, high, holes)
            where = {(square % wide, square // wide): square for square in range(wide * high) if square not in holes}
            for (column, row), square in where.items():
                for across in range(-3, 4):
                    for up in range(-3, 4):
                        goal = where.get((column + across, row + up))
                        self.assertEqual(board.moved(square, across, up), goal, (wide, high, square, across, up))

    def test_far_row(self):
        for wide, high in BOARDS:
            board = Board(wide, high, [])
            self.assertEqual((board.far_row(0), board.far_row(1)), (high - 1, 0))

    def test_far_row_with_holes_there(self):
        board = Board(2, 3, [0, 1, 4, 5])
        self.assertEqual((board.far_row(0), board.far_row(1)), (2, 0))


if __name__ == "__main__":
    unittest.main()
