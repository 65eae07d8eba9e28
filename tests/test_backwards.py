import random
import unittest

from playboard.backwards import worked
from playboard.webs import Web
from samples import follows, played

WORDS = [("won", 0), ("won", 1), ("won", 5), ("lost", 0), ("lost", 2), ("lost", 6), ("even", 0)]
FAR = [("won", 10 ** 9), ("lost", 10 ** 9 + 3), ("won", 10 ** 30), ("lost", 10 ** 30), ("lost", 10 ** 9), ("won", 10 ** 9 + 1)]


def net(chance, many, words, share):
    """Places with ways to anywhere, themselves and the same one twice among them."""
    nexts, known = [], []
    for _ in range(many):
        word = chance.choice(words) if chance.random() < share else None
        least = 1 if word is None else 0
        ways = [chance.randrange(many) for _ in range(chance.choice([least, 1, 1, 2, 3]))]
        nexts.append(ways)
        known.append(word)
    return nexts, known


class TestWorked(unittest.TestCase):
    def check(self, nexts, known):
        words = worked(nexts, known)
        self.assertEqual(len(words), len(known))
        for number, word in enumerate(words):
            if known[number] is not None:
                self.assertEqual(word, known[number])
            else:
                others = [words[follower] for follower in nexts[number]]
                self.assertTrue(follows(word, others), (number, word, others))
        return words

    def test_known_ones_alone(self):
        self.assertEqual(worked([], []), [])
        self.assertEqual(worked([[]], [("won", 0)]), [("won", 0)])
        self.assertEqual(worked([[] for _ in WORDS + FAR], WORDS + FAR), WORDS + FAR)

    def test_known_ones_with_followers_stay_as_they_are(self):
        known = [("lost", 4), ("won", 0), ("even", 0), ("lost", 0)]
        self.assertEqual(worked([[1], [0, 2], [3, 3], [3]], known), known)
        self.assertEqual(worked([[1], [0]], [("won", 7), None]), [("won", 7), ("lost", 8)])
        self.assertEqual(worked([[0, 1], [0]], [("lost", 7), None]), [("lost", 7), ("won", 8)])

    def test_one_follower(self):
        for word in WORDS + FAR:
            told = {"won": ("lost", word[1] + 1), "lost": ("won", word[1] + 1), "even": ("even", 0)}[word[0]]
            self.assertEqual(worked([[1], []], [None, word]), [told, word])
            self.assertEqual(worked([[], [0]], [word, None]), [word, told])

    def test_itself(self):
        self.assertEqual(worked([[0]], [None]), [("even", 0)])
        self.assertEqual(worked([[0, 0]], [None]), [("even", 0)])
        self.assertEqual(worked([[0, 1], []], [None, ("won", 3)]), [("even", 0), ("won", 3)])
        self.assertEqual(worked([[0, 1], []], [None, ("lost", 3)]), [("won", 4), ("lost", 3)])

    def test_the_same_follower_twice(self):
        self.assertEqual(worked([[1, 1], []], [None, ("won", 3)]), [("lost", 4), ("won", 3)])
        self.assertEqual(worked([[1, 1, 2], [], []], [None, ("won", 3), ("won", 5)])[0], ("lost", 6))
        self.assertEqual(worked([[1, 2, 1], [], []], [None, ("won", 3), ("even", 0)])[0], ("even", 0))
        self.assertEqual(worked([[1, 1], []], [None, ("lost", 3)])[0], ("won", 4))

    def test_rings(self):
        for many in (2, 3, 5, 2000):
            ring = [[(number + 1) % many] for number in range(many)]
            self.assertEqual(worked(ring, [None] * many), [("even", 0)] * many)
            known = [None] * many
            known[0] = ("lost", 2)
            words = self.check(ring, known)
            self.assertEqual(words[1 % many:][0][1], many + 1)

    def test_a_ring_with_a_way_out(self):
        self.assertEqual(worked([[1], [0, 2], []], [None, None, ("lost", 0)]), [("lost", 2), ("won", 1), ("lost", 0)])
        self.assertEqual(worked([[1], [0, 2], []], [None, None, ("won", 0)]), [("even", 0), ("even", 0), ("won", 0)])
        self.assertEqual(worked([[1], [0, 2], []], [None, None, ("even", 0)]), [("even", 0)] * 3)

    def test_the_least_lost_one_tells_though_it_is_found_later(self):
        # The place 0 has a lost one with a great n at once, and a nearer one by many steps.
        nexts = [[1, 2], [], [3], [4], [5], [6], []]
        known = [None, ("lost", 50), None, None, None, None, ("won", 0)]
        self.assertEqual(self.check(nexts, known)[0], ("won", 51))
        known = [None, ("lost", 50), None, None, None, None, ("lost", 0)]
        self.assertEqual(self.check(nexts, known)[0], ("won", 5))
        known = [None, ("lost", 3), None, None, None, None, ("lost", 0)]
        self.assertEqual(self.check(nexts, known)[0], ("won", 4))

    def test_chains_of_thousands_in_either_order(self):
        many = 20000
        for word in (("lost", 0), ("won", 4), ("even", 0), ("lost", 10 ** 30)):
            onwards = [[number + 1] for number in range(many)] + [[]]
            words = self.check(onwards, [None] * many + [word])
            backwards = [[]] + [[number] for number in range(many)]
            others = self.check(backwards, [word] + [None] * many)
            self.assertEqual(words, list(reversed(others)))
            if word[0] != "even":
                self.assertEqual(words[0], (word[0], word[1] + many))

    def test_a_place_with_thousands_of_followers(self):
        many = 5000
        known = [None] + [("won", 10 ** 9 * n) for n in range(many)]
        self.assertEqual(worked([list(range(1, many + 1))] + [[]] * many, known)[0], ("lost", 10 ** 9 * (many - 1) + 1))
        known = [None] + [("lost", 10 ** 9 * n + 4) for n in range(many)]
        self.assertEqual(worked([list(range(many, 0, -1))] + [[]] * many, known)[0], ("won", 5))

    def test_great_numbers_far_apart(self):
        nexts = [[1], [2, 5], [3], [], [3, 5], []]
        known = [None, None, None, ("won", 10 ** 12), None, ("lost", 10 ** 60)]
        words = self.check(nexts, known)
        self.assertEqual(words[2], ("lost", 10 ** 12 + 1))
        self.assertEqual(words[1], ("won", 10 ** 12 + 2))
        self.assertEqual(words[4], ("won", 10 ** 60 + 1))

    def test_nets_by_chance(self):
        chance = random.Random(5)
        told = set()
        for words in (WORDS, FAR, WORDS + FAR, [("lost", 0)], [("won", 0)], [("lost", 0), ("even", 0)]):
            for many in range(1, 60):
                for share in (0.1, 0.3, 0.6):
                    told.update(self.check(*net(chance, many, words, share)))
        for name in ("won", "lost"):
            self.assertGreater(len({n for other, n in told if other == name}), 20)

    def test_great_nets_by_chance(self):
        chance = random.Random(6)
        for share in (0.01, 0.2):
            self.check(*net(chance, 20000, WORDS + FAR, share))

    def test_webs(self):
        for game, start in played():
            web = Web(game, [start], 5000)
            self.check(web.nexts(), web.known())

    def test_words_of_a_chase(self):
        game, start = played()[0]
        web = Web(game, [start], 5000)
        words = worked(web.nexts(), web.known())
        self.assertEqual(words[0], ("won", 7))
        told = {
            # The k is taken at once; it takes the r and is even; it can't leave the r's lines and the other k's squares.
            ("K..R.......k", 0): ("won", 1), ("K.........Rk", 1): ("even", 0), ("..K......R.k", 1): ("lost", 2),
        }
        for place, word in told.items():
            self.assertEqual(words[web.number(place)], word)


class TestOwnLists(unittest.TestCase):
    def test_nothing_is_changed_and_the_words_are_the_askers_own(self):
        nexts = [[1, 2], [0], [], [3, 3]]
        known = [None, None, ("lost", 2), None]
        words = worked(nexts, known)
        self.assertEqual(nexts, [[1, 2], [0], [], [3, 3]])
        self.assertEqual(known, [None, None, ("lost", 2), None])
        copy = list(words)
        worked(nexts, known).clear()
        nexts[0].clear()
        known[2] = ("won", 0)
        self.assertEqual(words, copy)
        self.assertEqual(words, [("won", 3), ("lost", 4), ("lost", 2), ("even", 0)])
        whole = [("won", 1)]
        worked([[]], whole).append("x")
        self.assertEqual(whole, [("won", 1)])


if __name__ == "__main__":
    unittest.main()
