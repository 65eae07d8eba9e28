import string
import unittest

from playboard.words import is_among, is_letter, is_whole, number_of, number_text

WHOLE = [0, 1, -1, 8, 9, 255, -256, 10 ** 9, 10 ** 30, -(10 ** 30), 10 ** 5000]
NOT_WHOLE = [
    True, False, None, "", "0", "1", "a", "ab", "-1", [], [1], [[]], (), (1,), (1, 2), {}, {1: 1}, {1},
    1.0, 0.5, b"1", object(), int, len,
]
NOT_LETTERS = [
    "", "ab", "aa", "abc", "a ", " a", "A", "Z", "M", "0", "9", "-", ".", "#", " ", "`", "{", "~", "@", "[", "\n", "\t",
    "a\n", "\u00e4", "\u00df", 0, 1, 97, True, False, None, [], ["a"], ("a",), (), {}, {"a": "a"}, b"a", 1.5, object(),
]


class TestIsWhole(unittest.TestCase):
    def test_numbers_of_any_size(self):
        for thing in WHOLE:
            self.assertIs(is_whole(thing), True)

    def test_nothing_else(self):
        for thing in NOT_WHOLE:
            with self.subTest(thing=thing):
                self.assertIs(is_whole(thing), False)


class TestIsLetter(unittest.TestCase):
    def test_a_to_z(self):
        for thing in string.ascii_lowercase:
            with self.subTest(thing=thing):
                self.assertIs(is_letter(thing), True)

    def test_nothing_else(self):
        for thing in NOT_LETTERS:
            with self.subTest(thing=thing):
                self.assertIs(is_letter(thing), False)

    def test_of_all_single_signs_only_letters(self):
        letters = [chr(code) for code in range(0, 1000) if is_letter(chr(code))]
        self.assertEqual("".join(letters), string.ascii_lowercase)


class TestIsAmong(unittest.TestCase):
    def test_at_the_bounds_and_beside_them(self):
        for least, most in ((0, 0), (1, 8), (-3, 3), (-9, -4), (0, 10 ** 40)):
            for thing, truth in (
                (least - 1, False), (least, True), (most, True), (most + 1, False),
                (least - 10 ** 50, False), (most + 10 ** 50, False), ((least + most) // 2, True),
            ):
                with self.subTest(least=least, most=most, thing=thing):
                    self.assertIs(is_among(thing, least, most), truth)

    def test_no_number_lies_between_crossed_bounds(self):
        for thing in (0, 1, 2, 3):
            self.assertIs(is_among(thing, 2, 1), False)

    def test_true_and_false_are_not_among_numbers(self):
        self.assertIs(is_among(True, 0, 8), False)
        self.assertIs(is_among(False, 0, 8), False)
        self.assertIs(is_among(True, 1, 1), False)
        self.assertIs(is_among(False, 0, 0), False)

    def test_nothing_else(self):
        for thing in NOT_WHOLE:
            with self.subTest(thing=thing):
                self.assertIs(is_among(thing, -100, 100), False)


class TestNumberText(unittest.TestCase):
    def test_ordinary_ones(self):
        for number, text in (
            (0, "0"), (1, "1"), (7, "7"), (9, "9"), (10, "10"), (100, "100"), (123456789, "123456789"),
            (-1, "-1"), (-9, "-9"), (-10, "-10"), (-305, "-305"), (1000000000, "1000000000"),
        ):
            with self.subTest(number=number):
                self.assertEqual(number_text(number), text)

    def test_each_small_one(self):
        for number in range(-1200, 1200):
            self.assertEqual(number_text(number), str(number))

    def test_great_ones(self):
        for figures in (18, 19, 59, 60, 61, 119, 120, 121, 500, 4299, 4300, 4301, 9000):
            power = 10 ** figures
            with self.subTest(figures=figures):
                self.assertEqual(number_text(power), "1" + "0" * figures)
                self.assertEqual(number_text(-power), "-1" + "0" * figures)
                self.assertEqual(number_text(power - 1), "9" * figures)
                self.assertEqual(number_text(1 - power), "-" + "9" * figures)
                self.assertEqual(number_text(power + 20), "1" + "0" * (figures - 2) + "20")

    def test_great_ones_of_all_figures(self):
        number = int("1234567890" * 30)
        self.assertEqual(number_text(number), "1234567890" * 30)
        self.assertEqual(number_text(-number), "-" + "1234567890" * 30)


class TestNumberOf(unittest.TestCase):
    def test_what_number_text_writes(self):
        for number in list(range(-1200, 1200)) + [999999999, -999999999, 100000000, -100000000, 120340560]:
            self.assertEqual(number_of(number_text(number)), number)

    def test_ordinary_ones(self):
        for text, number in (
            ("0", 0), ("1", 1), ("9", 9), ("10", 10), ("70", 70), ("-1", -1), ("-10", -10), ("-9", -9),
            ("999999999", 999999999), ("-999999999", -999999999), ("100000000", 100000000),
        ):
            with self.subTest(text=text):
                self.assertEqual(number_of(text), number)
                self.assertIs(is_whole(number_of(text)), True)

    def test_ten_figures_and_more(self):
        for text in ("1000000000", "9999999999", "1234567890", "-1000000000", "-1234567890", "1" * 50, "1" * 5000):
            with self.subTest(text=text):
                self.assertIsNone(number_of(text))

    def test_a_nought_ahead(self):
        for text in ("00", "01", "007", "-01", "-00", "000000000", "0000000000", "012345678", "-012345678"):
            with self.subTest(text=text):
                self.assertIsNone(number_of(text))

    def test_no_minus_ahead_of_nought(self):
        self.assertIsNone(number_of("-0"))

    def test_other_texts(self):
        for text in (
            "", "-", "--", "--1", "+", "+1", "+0", "-+1", "+-1", " ", " 1", "1 ", "- 1", "1 2", "1-", "1-2", "-1-",
            "a", "1a", "a1", "x", "1.0", "1.", ".1", "1,0", "1_0", "1_000", "0x1", "1e3", "None", "True", "\n", "1\n",
            "\n1", "1\t", "\t1", "/", ":", "1:", "/1", "\u00b2", "\u0661", "1\u0661", "\uff11", "\u22121",
        ):
            with self.subTest(text=text):
                self.assertIsNone(number_of(text))

    def test_of_all_single_signs_only_figures(self):
        read = [chr(code) for code in range(0, 3000) if number_of(chr(code)) is not None]
        self.assertEqual("".join(read), "0123456789")


if __name__ == "__main__":
    unittest.main()
