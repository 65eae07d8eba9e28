import collections
import itertools
import unittest

from playboard.boards import Board
from playboard.ends import followers
from playboard.games import Game
from playboard.materials import closed, leads, material_of
from samples import chase, crowns, fields_of, games, hunt, places, played, race


def with_turns(kinds, turns):
    return Game(Board(2, 2, []), list(kinds), [], list(turns), [], "lost")


def leads_by_counts(game, material):
    """What a material leads to, told by counts of its signs."""
    turns = {}
    for kind, other in game.turns:
        turns[kind] = other
        turns[kind.upper()] = other.upper()
    counts = collections.Counter(material)
    found = set()
    for mine, theirs in ((str.isupper, str.islower), (str.islower, str.isupper)):
        if not any(mine(sign) for sign in counts):
            continue
        for taken in [None] + [sign for sign in counts if theirs(sign)]:
            for turned in [None] + [sign for sign in counts if mine(sign) and sign in turns]:
                left = collections.Counter(material)
                if taken:
                    left[taken] -= 1
                if turned:
                    left[turned] -= 1
                    left[turns[turned]] += 1
                if taken or turned:
                    found.add("".join(sorted(left.elements())))
    return sorted(found)


def closed_by_looks(game, material):
    """The materials in order, each found by a look at all that could stand next."""
    ways = {}
    new = {material}
    while new:
        ways.update({each: leads_by_counts(game, each) for each in new})
        new = {other for each in new for other in ways[each]} - set(ways)
    told = []
    while len(told) < len(ways):
        told.append(min(each for each in ways if each not in told and all(other in told for other in ways[each])))
    return told


def materials(game, most):
    signs = sorted("".join(game.kinds) + "".join(game.kinds).upper())
    for many in range(most + 1):
        for picked in itertools.combinations_with_replacement(signs, many):
            yield "".join(picked)


class TestMaterialOf(unittest.TestCase):
    def test_written_out(self):
        told = {
            "": "", ".": "", "#": "", "....#...": "", "a": "a", "A": "A", "b.a#B.A": "ABab", "zZaA": "AZaz", "aaBaB.": "BBaaa",
            "#k.K#": "Kk", "." * 64: "", "kK" * 40: "K" * 40 + "k" * 40,
        }
        for row, material in told.items():
            self.assertEqual(material_of(row), material)

    def test_rows_of_games(self):
        for game in games():
            for row, _ in places(game, 60):
                told = material_of(row)
                self.assertEqual(list(told), sorted(sign for sign in row if sign.isalpha()))


class TestLeads(unittest.TestCase):
    def test_without_turns(self):
        game = chase()
        told = {
            "": [], "K": [], "k": [], "KK": [], "krr": [], "Kk": ["K", "k"], "KRk": ["KR", "Kk", "Rk"],
            "KRRk": ["KRR", "KRk", "RRk"], "KKkk": ["KKk", "Kkk"], "KRkr": ["KRk", "KRr", "Kkr", "Rkr"],
        }
        for material, others in told.items():
            self.assertEqual(leads(game, material), others)

    def test_with_turns(self):
        game = race()
        told = {
            "": [], "P": ["Q"], "p": ["q"], "Q": [], "PP": ["PQ"], "PQ": ["QQ"], "pq": ["qq"],
            "Pq": ["P", "Q", "Qq", "q"], "Pp": ["P", "Pq", "Q", "Qp", "p", "q"], "Qq": ["Q", "q"],
        }
        for material, others in told.items():
            self.assertEqual(leads(game, material), others)

    def test_a_turn_of_the_side_that_takes_not_of_the_other(self):
        game = with_turns("abc", [("a", "b")])
        # The first side takes the c, and its a is turned; the second side takes, and turns nothing.
        self.assertEqual(leads(game, "Ac"), ["A", "B", "Bc", "c"])
        self.assertEqual(leads(game, "Ca"), ["C", "Cb", "a", "b"])

    def test_sorted_though_the_turn_goes_to_an_earlier_letter(self):
        game = with_turns("abz", [("z", "a")])
        self.assertEqual(leads(game, "BZ"), ["AB"])
        self.assertEqual(leads(game, "bz"), ["ab"])
        self.assertEqual(leads(game, "BZb"), ["AB", "ABb", "BZ", "Bb", "Zb"])

    def test_against_counts(self):
        for game, most in ((hunt(), 4), (race(), 6), (chase(), 6), (crowns(), 6)):
            for material in materials(game, most):
                self.assertEqual(leads(game, material), leads_by_counts(game, material), material)

    def test_several_turns(self):
        game = with_turns("abcdef", [("a", "d"), ("b", "d"), ("f", "c")])
        for material in materials(game, 3):
            self.assertEqual(leads(game, material), leads_by_counts(game, material), material)

    def test_great_ones(self):
        game = race()
        material = "P" * 16 + "Q" * 16 + "p" * 16 + "q" * 16
        self.assertEqual(leads(game, material), leads_by_counts(game, material))

    def test_each_once_rising(self):
        for material in materials(hunt(), 4):
            told = leads(hunt(), material)
            self.assertEqual(told, sorted(set(told)))
            self.assertNotIn(material, told)

    def test_followers_have_the_material_or_one_that_it_leads_to(self):
        for game in games() + [game for game, _ in played()]:
            for place in places(game, 60):
                material = material_of(place[0])
                right = leads(game, material) + [material]
                for follower in followers(game, place):
                    self.assertIn(material_of(follower[0]), right)

    def test_whatever_the_rules_and_the_board_are(self):
        game = Game(Board(1, 1, []), ["p", "q"], [], [("p", "q")], [("home", "q")], "lost")
        for material in materials(game, 4):
            self.assertEqual(leads(game, material), leads(race(), material))
            self.assertEqual(closed(game, material), closed(race(), material))


class TestClosed(unittest.TestCase):
    def test_written_out(self):
        self.assertEqual(closed(chase(), ""), [""])
        self.assertEqual(closed(chase(), "K"), ["K"])
        self.assertEqual(closed(chase(), "KRk"), ["K", "KR", "R", "k", "Kk", "Rk", "KRk"])
        self.assertEqual(closed(race(), "P"), ["Q", "P"])
        self.assertEqual(closed(race(), "Pp"), ["Q", "P", "q", "Qq", "Pq", "p", "Qp", "Pp"])

    def test_against_looks(self):
        for game, most in ((hunt(), 3), (race(), 5), (chase(), 5), (with_turns("abz", [("z", "a"), ("b", "a")]), 4)):
            for material in materials(game, most):
                self.assertEqual(closed(game, material), closed_by_looks(game, material), material)

    def test_each_once_behind_all_that_it_leads_to(self):
        game = race()
        material = "PPPPPPPPpppppppp"
        told = closed(game, material)
        self.assertEqual(len(set(told)), len(told))
        self.assertEqual(told[-1], material)
        at = {each: number for number, each in enumerate(told)}
        for each in told:
            for other in leads(game, each):
                self.assertLess(at[other], at[each])

    def test_each_list_is_the_askers_own(self):
        game = race()
        told = (leads(game, "PPp"), closed(game, "PPp"))
        copies = (list(told[0]), list(told[1]))
        leads(game, "PPp").clear()
        closed(game, "PPp").clear()
        self.assertEqual(told, copies)
        told[0].append("x")
        told[1].append("x")
        self.assertEqual((leads(game, "PPp"), closed(game, "PPp")), copies)
        self.assertEqual(fields_of(game), fields_of(race()))


if __name__ == "__main__":
    unittest.main()
