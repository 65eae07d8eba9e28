import itertools
import unittest

from playboard.wordings import by_followers, word_text
from samples import follows


class TestByFollowers(unittest.TestCase):
    def test_one(self):
        for n in (0, 1, 7, 10 ** 9, 10 ** 30):
            self.assertEqual(by_followers([("lost", n)]), ("won", n + 1))
            self.assertEqual(by_followers([("won", n)]), ("lost", n + 1))
        self.assertEqual(by_followers([("even", 0)]), ("even", 0))

    def test_lost_ones_of_different_n(self):
        self.assertEqual(by_followers([("lost", 5), ("lost", 2), ("lost", 9)]), ("won", 3))
        self.assertEqual(by_followers([("won", 1), ("lost", 4), ("even", 0), ("lost", 6)]), ("won", 5))
        self.assertEqual(by_followers([("even", 0), ("lost", 10 ** 30)]), ("won", 10 ** 30 + 1))

    def test_all_won(self):
        self.assertEqual(by_followers([("won", 5), ("won", 2), ("won", 9), ("won", 3)]), ("lost", 10))
        self.assertEqual(by_followers([("won", 10 ** 30), ("won", 0)]), ("lost", 10 ** 30 + 1))

    def test_some_and_all_even(self):
        self.assertEqual(by_followers([("won", 5), ("even", 0), ("won", 9)]), ("even", 0))
        self.assertEqual(by_followers([("even", 0), ("even", 0)]), ("even", 0))

    def test_all_rows_of_up_to_four(self):
        words = [("won", 0), ("won", 1), ("won", 4), ("lost", 0), ("lost", 1), ("lost", 3), ("even", 0)]
        for many in range(1, 5):
            for row in itertools.product(words, repeat=many):
                self.assertTrue(follows(by_followers(list(row)), row), row)

    def test_many(self):
        words = [("won", n) for n in range(5000)]
        self.assertEqual(by_followers(words), ("lost", 5000))
        self.assertEqual(by_followers(words + [("even", 0)]), ("even", 0))
        self.assertEqual(by_followers(words + [("even", 0), ("lost", 4)] + words), ("won", 5))

    def test_the_list_stays_as_it_was(self):
        words = [("won", 5), ("lost", 2), ("won", 9), ("lost", 1)]
        by_followers(words)
        self.assertEqual(words, [("won", 5), ("lost", 2), ("won", 9), ("lost", 1)])


class TestWordText(unittest.TestCase):
    def test_each_form(self):
        self.assertEqual(word_text(("won", 3)), "won in 3")
        self.assertEqual(word_text(("lost", 0)), "lost in 0")
        self.assertEqual(word_text(("won", 0)), "won in 0")
        self.assertEqual(word_text(("lost", 12)), "lost in 12")
        self.assertEqual(word_text(("even", 0)), "even")

    def test_great_numbers(self):
        self.assertEqual(word_text(("won", 10 ** 9)), "won in 1000000000")
        self.assertEqual(word_text(("lost", 10 ** 5000)), "lost in 1" + "0" * 5000)


if __name__ == "__main__":
    unittest.main()
