import random
import unittest

from playboard.backwards import worked
from playboard.best import best, line
from playboard.webs import Web
from samples import played

WORDS = [("won", 0), ("won", 3), ("lost", 0), ("lost", 2), ("even", 0), ("won", 10 ** 30), ("lost", 10 ** 30)]


def nets():
    """Nets of webs, and others in which followers stand twice and known places have some."""
    for game, start in played():
        web = Web(game, [start], 5000)
        yield web.nexts(), web.known()
    chance = random.Random(9)
    for many in range(2, 60):
        known = [chance.choice(WORDS) if chance.random() < 0.3 else None for _ in range(many)]
        nexts = [[chance.randrange(many) for _ in range(chance.randint(1, 4))] for _ in range(many)]
        yield nexts, known


def is_best(word, follower):
    if word[0] == "even":
        return follower[0] == "even"
    return {word[0], follower[0]} == {"won", "lost"} and follower[1] + 1 == word[1]


class TestBest(unittest.TestCase):
    def test_won_lost_and_even(self):
        nexts = [[3, 2, 1, 4, 5], [], [], [], [], []]
        known = [None, ("lost", 2), ("lost", 1), ("won", 0), ("even", 0), ("lost", 1)]
        self.assertEqual(best(nexts, known, [("won", 2)] + known[1:], 0), [2, 5])
        nexts = [[4, 3, 1, 2], [], [], [], []]
        known = [None, ("won", 4), ("won", 1), ("won", 3), ("won", 4)]
        self.assertEqual(best(nexts, known, [("lost", 5)] + known[1:], 0), [1, 4])
        nexts = [[4, 3, 1, 2, 0], [], [], [], []]
        known = [None, ("won", 0), ("even", 0), ("won", 3), ("even", 0)]
        self.assertEqual(best(nexts, known, [("even", 0)] + known[1:], 0), [0, 2, 4])

    def test_the_same_follower_twice(self):
        nexts = [[2, 1, 2, 1, 2], [], []]
        self.assertEqual(best(nexts, [None, ("lost", 0), ("lost", 0)], [("won", 1), ("lost", 0), ("lost", 0)], 0), [1, 2])
        self.assertEqual(best(nexts, [None, ("won", 0), ("lost", 0)], [("won", 1), ("won", 0), ("lost", 0)], 0), [2])
        self.assertEqual(best([[0, 0]], [None], [("even", 0)], 0), [0])

    def test_none_where_the_word_is_known_also_with_followers(self):
        for word in WORDS:
            known = [word, ("lost", 0), ("won", 0), ("even", 0)]
            self.assertEqual(best([[1, 2, 3, 0], [], [], []], known, known, 0), [])
            self.assertEqual(best([[1, 2, 3, 0], [], [], []], known, known, 1), [])
        # Known as it would follow, too.
        known = [("won", 1), ("lost", 0)]
        self.assertEqual(best([[1], []], known, known, 0), [])

    def test_great_numbers(self):
        known = [None, ("lost", 10 ** 30), ("won", 5)]
        words = worked([[2, 1], [], []], known)
        self.assertEqual(best([[2, 1], [], []], known, words, 0), [1])

    def test_each_place_of_nets(self):
        for nexts, known in nets():
            words = worked(nexts, known)
            for number, word in enumerate(words):
                told = best(nexts, known, words, number)
                if known[number] is not None:
                    self.assertEqual(told, [])
                else:
                    right = {follower for follower in nexts[number] if is_best(word, words[follower])}
                    self.assertEqual(told, sorted(right))
                    self.assertGreaterEqual(len(told), 1)


class TestLine(unittest.TestCase):
    def check(self, nexts, known, words, number, most):
        told = line(nexts, known, words, number, most)
        self.assertEqual(told[0], number)
        self.assertLessEqual(len(told), most + 1)
        for here, follower in zip(told, told[1:]):
            self.assertIsNone(known[here])
            self.assertEqual(follower, best(nexts, known, words, here)[0])
        if len(told) <= most:
            self.assertIsNotNone(known[told[-1]])
        return told

    def test_nets(self):
        for nexts, known in nets():
            words = worked(nexts, known)
            for number in range(0, len(words), 7):
                for most in (0, 1, 2, 5, 40):
                    self.check(nexts, known, words, number, most)

    def test_won_and_lost(self):
        for game, start in played():
            web = Web(game, [start], 5000)
            nexts, known = web.nexts(), web.known()
            words = worked(nexts, known)
            for number in range(0, len(words), 5):
                name, n = words[number]
                if name != "even":
                    told = self.check(nexts, known, words, number, n)
                    self.assertEqual(len(told), n + 1)
                    self.assertEqual(told, line(nexts, known, words, number, n + 9))
                    self.assertEqual(words[told[-1]][1], 0)
                    if n:
                        self.assertEqual(line(nexts, known, words, number, n - 1), told[:-1])

    def test_most_of_nought_of_just_enough_of_fewer_and_of_more(self):
        nexts, known = [[1, 2], [3], [3], [4], []], [None, None, None, None, ("lost", 0)]
        words = worked(nexts, known)
        self.assertEqual(words, [("won", 3), ("lost", 2), ("lost", 2), ("won", 1), ("lost", 0)])
        whole = [0, 1, 3, 4]
        for most in range(8):
            self.assertEqual(line(nexts, known, words, 0, most), whole[:most + 1])
        self.assertEqual(line(nexts, known, words, 0, 10 ** 30), whole)

    def test_a_known_one(self):
        for most in (0, 1, 7):
            self.assertEqual(line([[1], []], [("won", 4), ("lost", 0)], [("won", 4), ("lost", 0)], 0, most), [0])

    def test_until_one_is_known_though_it_has_followers(self):
        nexts, known = [[1], [2], [0]], [None, ("lost", 5), None]
        words = worked(nexts, known)
        self.assertEqual(line(nexts, known, words, 0, 9), [0, 1])
        self.assertEqual(line(nexts, known, words, 2, 9), [2, 0, 1])

    def test_even_ones_go_on(self):
        nexts, known = [[1, 3], [2, 0], [0], []], [None, None, None, ("won", 0)]
        words = worked(nexts, known)
        self.assertEqual(line(nexts, known, words, 0, 6), [0, 1, 0, 1, 0, 1, 0])
        self.assertEqual(line(nexts, known, words, 2, 1), [2, 0])
        self.assertEqual(len(line(nexts, known, words, 0, 20000)), 20001)

    def test_an_even_one_that_is_known_ends_it(self):
        nexts, known = [[1], []], [None, ("even", 0)]
        self.assertEqual(line(nexts, known, worked(nexts, known), 0, 9), [0, 1])


class TestOwnLists(unittest.TestCase):
    def test_nothing_is_changed_and_what_is_told_is_the_askers_own(self):
        nexts, known, words = [[2, 1, 1], [], []], [None, ("lost", 0), ("lost", 0)], [("won", 1), ("lost", 0), ("lost", 0)]
        told, way = best(nexts, known, words, 0), line(nexts, known, words, 0, 4)
        self.assertEqual(nexts, [[2, 1, 1], [], []])
        self.assertEqual((known, words), ([None, ("lost", 0), ("lost", 0)], [("won", 1), ("lost", 0), ("lost", 0)]))
        best(nexts, known, words, 0).clear()
        line(nexts, known, words, 0, 4).clear()
        nexts[0].clear()
        words.clear()
        self.assertEqual((told, way), ([1, 2], [0, 1]))


if __name__ == "__main__":
    unittest.main()
