import string
import unittest

from playboard.squares import column_of, row_of, square_of, square_text

SIDES = range(1, 9)
BOARDS = [(wide, high) for wide in SIDES for high in SIDES]
SIGNS = string.digits + string.ascii_letters + string.punctuation + " \n\t"


def told_squares(wide, high):
    """Number, column, row and text of each square, counted as the document counts them."""
    told = []
    for row, row_sign in enumerate("12345678"[:high]):
        for column, column_sign in enumerate("abcdefgh"[:wide]):
            told.append((len(told), column, row, column_sign + row_sign))
    return told


class TestSquares(unittest.TestCase):
    def test_the_square_of_the_document(self):
        self.assertEqual(square_text(3, 4), "b2")
        self.assertEqual(square_of(3, 2, "b2"), 4)
        self.assertEqual((column_of(3, 4), row_of(3, 4)), (1, 1))

    def test_corners(self):
        self.assertEqual(square_text(8, 0), "a1")
        self.assertEqual(square_text(8, 7), "h1")
        self.assertEqual(square_text(8, 56), "a8")
        self.assertEqual(square_text(8, 63), "h8")
        self.assertEqual(square_text(1, 7), "a8")
        self.assertEqual(square_of(1, 8, "a8"), 7)
        self.assertEqual(square_of(8, 1, "h1"), 7)

    def test_each_square_of_each_board(self):
        for wide, high in BOARDS:
            for square, column, row, text in told_squares(wide, high):
                with self.subTest(wide=wide, high=high, square=square):
                    self.assertEqual(column_of(wide, square), column)
                    self.assertEqual(row_of(wide, square), row)
                    self.assertEqual(square_text(wide, square), text)
                    self.assertEqual(square_of(wide, high, text), square)

    def test_of_all_texts_of_two_signs_only_the_squares(self):
        texts = [first + second for first in SIGNS for second in SIGNS]
        for wide, high in ((1, 1), (1, 8), (8, 1), (3, 5), (8, 8)):
            known = {text: square for square, _, _, text in told_squares(wide, high)}
            for text in texts:
                self.assertEqual(square_of(wide, high, text), known.get(text), (wide, high, text))

    def test_a_column_or_row_beyond_each_board(self):
        for wide, high in BOARDS:
            with self.subTest(wide=wide, high=high):
                self.assertIsNone(square_of(wide, high, "abcdefghi"[wide] + "1"))
                self.assertIsNone(square_of(wide, high, "a" + "123456789"[high]))
                self.assertIsNone(square_of(wide, high, "a0"))
                self.assertIsNone(square_of(wide, high, "i1"))
                self.assertIsNone(square_of(wide, high, "a9"))

    def test_signs_more_or_less(self):
        for text in (
            "", "a", "1", "11", "aa", "a11", "a01", "a10", "aa1", "a1 ", " a1", "a 1", "a1\n", "\na1", "a1a", "a1b2",
            "1a", "a-1", "a+1", "-a1", "a1-", "a1.", "b2b2", "a000000001", "a1111111111",
        ):
            with self.subTest(text=text):
                self.assertIsNone(square_of(8, 8, text))

    def test_capitals_and_other_signs(self):
        for text in ("A1", "B2", "H8", "`1", "{1", "@1", "#1", ".1", "a.", "a/", "a:", "a#", "\u00e41", "a\u00b9", "a\uff11"):
            with self.subTest(text=text):
                self.assertIsNone(square_of(8, 8, text))

    def test_somewhat_beyond_the_bounds_nothing_is_refused(self):
        for square in range(100):
            self.assertEqual(square_of(10, 10, square_text(10, square)), square)


if __name__ == "__main__":
    unittest.main()
