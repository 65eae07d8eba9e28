import unittest

from playboard.backwards import worked
from playboard.best import best
from playboard.boards import Board
from playboard.games import Game
from playboard.plans import lines_of, plan
from playboard.webs import Web
from samples import chase, played, tag


def webs():
    for game, start in played():
        web = Web(game, [start], 5000)
        yield web, worked(web.nexts(), web.known())


def some(words):
    """Places to start at: of each word some, and not too many."""
    told = {}
    for number, (name, n) in enumerate(words):
        told.setdefault((name, n), []).append(number)
    return sorted({number for numbers in told.values() for number in numbers[:2] + numbers[-1:]})


def holder(web, words, number):
    side = web.places[number][1]
    return side if words[number][0] in ("won", "even") else 1 - side


def plan_by_rounds(web, words, number):
    """The plan, told by going over all places that were come to until nothing is new."""
    nexts, known = web.nexts(), web.known()
    mine = holder(web, words, number)
    come_to, told = {number}, {}
    new = {number}
    while new:
        found = set()
        for here in new:
            if known[here] is None and web.places[here][1] == mine:
                told[here] = best(nexts, known, words, here)[0]
                found.add(told[here])
            else:
                found.update(nexts[here])
        new = found - come_to
        come_to |= new
    return told


def lines_one_by_one(web, told, number, most):
    """All ways, each told with those that go on from its second place."""
    ways = [told[number]] if number in told else web.nexts()[number]
    if most == 0 or not ways:
        return [[number]]
    return sorted([number] + rest for way in set(ways) for rest in lines_one_by_one(web, told, way, most - 1))


class TestPlan(unittest.TestCase):
    def test_against_rounds(self):
        for web, words in webs():
            for number in some(words):
                self.assertEqual(plan(web, words, number), plan_by_rounds(web, words, number))

    def test_written_out(self):
        game = Game(Board(4, 1, []), ["a"], [("a", "leap", "any", 1, 0), ("a", "leap", "any", -1, 0)], [], [], "lost")
        web = Web(game, [("A..a", 0)], 9)
        words = worked(web.nexts(), web.known())
        told = {("A..a", 0): ("won", 3), (".A.a", 1): ("lost", 2), (".Aa.", 0): ("won", 1), ("..A.", 1): ("lost", 0)}
        self.assertEqual({place: words[web.number(place)] for place in told}, told)
        end = web.number(("..A.", 1))
        self.assertEqual((web.number((".A.a", 1)), web.number((".Aa.", 0))), (1, 2))
        self.assertEqual(plan(web, words, 0), {0: 1, 2: end})
        self.assertEqual(plan(web, words, 1), {2: end})
        self.assertEqual(plan(web, words, 2), {2: end})
        self.assertEqual(lines_of(web, words, 0, 9), [[0, 1, 2, end]])
        self.assertEqual(lines_of(web, words, 1, 1), [[1, 2]])

    def test_won_lost_and_even_by_a_small_web(self):
        rules = [("a", "leap", "go", 1, 0), ("b", "leap", "go", 1, 0), ("b", "leap", "go", -1, 0)]
        game = Game(Board(3, 2, []), ["a", "b"], rules, [], [], "lost")
        # One has one move, the other two: who can't move any more has lost.
        web = Web(game, [(".A.a..", 0)], 99)
        words = worked(web.nexts(), web.known())
        self.assertEqual(web.places, [(".A.a..", 0), ("..Aa..", 1), ("..A.a.", 0)])
        self.assertEqual(words, [("lost", 2), ("won", 1), ("lost", 0)])
        self.assertEqual([plan(web, words, number) for number in range(3)], [{1: 2}, {1: 2}, {}])
        web = Web(game, [("B..b..", 1)], 99)
        words = worked(web.nexts(), web.known())
        self.assertEqual(set(words), {("even", 0)})
        # Each of the second side's places that is come to has its first follower, which is its first move's.
        told = plan(web, words, 0)
        self.assertTrue(all(web.places[here][1] == 1 for here in told))
        self.assertEqual(told, {here: min(web.nexts()[here]) for here in told})
        self.assertIn(0, told)

    def test_none_from_a_place_that_is_over(self):
        game = chase()
        for place in (("K...........", 0), ("K...........", 1), (".R.........k", 0)):
            web = Web(game, [place], 5000)
            self.assertEqual(plan(web, worked(web.nexts(), web.known()), 0), {})
        for web, words in webs():
            for number, word in enumerate(web.known()):
                if word is not None:
                    self.assertEqual(plan(web, words, number), {})
                    break

    def test_of_no_other_place(self):
        for web, words in webs():
            nexts, known = web.nexts(), web.known()
            for number in some(words):
                mine = holder(web, words, number)
                for here, follower in plan(web, words, number).items():
                    self.assertEqual(web.places[here][1], mine)
                    self.assertIsNone(known[here])
                    self.assertIn(follower, nexts[here])

    def come_to(self, web, told, mine, number):
        nexts = web.nexts()
        found, new = {number}, [number]
        while new:
            here = new.pop()
            if web.places[here][1] == mine and nexts[here]:
                self.assertIn(here, told)
            for way in [told[here]] if here in told else nexts[here]:
                if way not in found:
                    found.add(way)
                    new.append(way)
        return found

    def test_an_even_one_never_comes_to_the_holders_loss(self):
        many = 0
        for web, words in webs():
            known = web.known()
            for number in some(words):
                if words[number] == ("even", 0) and known[number] is None:
                    mine = web.places[number][1]
                    for here in self.come_to(web, plan(web, words, number), mine, number):
                        lost = "lost" if web.places[here][1] == mine else "won"
                        self.assertNotEqual(words[here][0], lost)
                        many += known[here] is not None
        self.assertGreater(many, 20)

    def test_a_won_one_comes_to_the_other_sides_loss_in_n_moves_at_the_most(self):
        for web, words in webs():
            nexts, known = web.nexts(), web.known()
            for number in some(words):
                if words[number][0] == "even":
                    continue
                mine = holder(web, words, number)
                told = plan(web, words, number)
                here = {number}
                for _ in range(words[number][1]):
                    here = {way for at in here for way in ([told[at]] if at in told else nexts[at])}
                    for at in here:
                        if known[at] is not None:
                            self.assertEqual(known[at], ("lost" if web.places[at][1] != mine else "won", 0))
                # Behind n moves each way has come to its end.
                self.assertTrue(all(known[at] is not None for at in here))


class TestLinesOf(unittest.TestCase):
    def test_against_one_by_one(self):
        for web, words in webs():
            for number in some(words):
                told = plan(web, words, number)
                for most in (0, 1, 2, 3, 4):
                    self.assertEqual(lines_of(web, words, number, most), lines_one_by_one(web, told, number, most))

    def test_most_of_nought(self):
        for web, words in webs():
            for number in some(words):
                self.assertEqual(lines_of(web, words, number, 0), [[number]])

    def test_to_the_end(self):
        for web, words in webs():
            known = web.known()
            for number in some(words):
                name, n = words[number]
                if name != "even" and n < 6:
                    whole = lines_of(web, words, number, n)
                    self.assertEqual(whole, lines_of(web, words, number, n + 50))
                    self.assertEqual(whole, lines_of(web, words, number, 10 ** 30))
                    self.assertEqual(max(len(way) for way in whole), n + 1)
                    for way in whole:
                        self.assertIsNotNone(known[way[-1]])
                        self.assertEqual([known[here] for here in way[:-1]], [None] * (len(way) - 1))

    def test_rising_by_numbers_not_by_texts(self):
        game = tag()
        web = Web(game, [("A..a#..aa", 0)], 5000)
        words = worked(web.nexts(), web.known())
        for number in (0, 1, 3):
            told = lines_of(web, words, number, 4)
            self.assertEqual(told, sorted(told))
            self.assertEqual(len({tuple(way) for way in told}), len(told))
        self.assertTrue(any(here > 9 for way in told for here in way))

    def test_long_ways(self):
        game = Game(Board(2, 2, []), ["a"], [("a", "leap", "any", 1, 0), ("a", "leap", "any", -1, 0)], [], [], "even")
        web = Web(game, [("A..a", 0)], 8)
        words = worked(web.nexts(), web.known())
        self.assertEqual(lines_of(web, words, 0, 3000), [[number % 4 for number in range(3001)]])


class TestOwnLists(unittest.TestCase):
    def test_nothing_is_changed_and_what_is_told_is_the_askers_own(self):
        game = chase()
        web = Web(game, [("..K......R.k", 1)], 5000)
        words = worked(web.nexts(), web.known())
        before = (list(web.places), web.nexts(), web.known(), list(words))
        chosen, ways = plan(web, words, 0), lines_of(web, words, 0, 2)
        copies = (dict(chosen), [list(way) for way in ways])
        plan(web, words, 0).clear()
        for way in lines_of(web, words, 0, 2):
            way.clear()
        self.assertEqual((web.places, web.nexts(), web.known(), words), before)
        words.clear()
        self.assertEqual((chosen, ways), copies)
        chosen[0] = 7
        words.extend(before[3])
        self.assertEqual(plan(web, words, 0), copies[0])


if __name__ == "__main__":
    unittest.main()
