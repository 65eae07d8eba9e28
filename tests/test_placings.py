import itertools
import math
import unittest

from playboard.boards import Board
from playboard.games import Game
from playboard.materials import material_of
from playboard.places import is_place
from playboard.placings import many_placings, placings
from samples import bare, fields_of, hunt, tag, wide_one


def on(wide, high, holes):
    return Game(Board(wide, high, holes), ["a", "b", "z"], [], [], [], "lost")


def all_rows(game):
    """All rows of a board, with any pieces."""
    signs = ["#" if square in game.board.holes else ".abzABZ" for square in range(game.board.wide * game.board.high)]
    return ["".join(row) for row in itertools.product(*signs)]


class TestPlacings(unittest.TestCase):
    def test_written_out(self):
        game = on(3, 1, [])
        self.assertEqual(placings(game, ""), ["..."])
        self.assertEqual(placings(game, "a"), ["..a", ".a.", "a.."])
        self.assertEqual(placings(game, "Aa"), [".Aa", ".aA", "A.a", "Aa.", "a.A", "aA."])
        self.assertEqual(placings(game, "aa"), [".aa", "a.a", "aa."])
        self.assertEqual(placings(game, "Aaa"), ["Aaa", "aAa", "aaA"])
        self.assertEqual(placings(on(3, 1, [1]), "B"), [".#B", "B#."])

    def test_all_rows_by_their_material(self):
        for game in (on(2, 2, []), on(2, 2, [3]), on(4, 1, [0]), on(1, 4, [1]), on(1, 1, []), on(3, 1, [0, 2])):
            rows = {}
            for row in all_rows(game):
                rows.setdefault(material_of(row), []).append(row)
            for many in range(6):
                for picked in itertools.combinations_with_replacement("ABZabz", many):
                    material = "".join(picked)
                    right = sorted(rows.get(material, []))
                    self.assertEqual(placings(game, material), right)
                    self.assertEqual(many_placings(game, material), len(right))

    def test_three_and_four_signs_on_greater_boards(self):
        for game in (on(4, 3, []), on(3, 4, [0, 5, 11]), hunt()):
            free = game.board.squares()
            kinds = sorted(game.kinds)[:2]
            signs = [kinds[0].upper(), kinds[1].upper(), kinds[0], kinds[1]]
            for material in ("".join(signs[:3]), "".join(signs), signs[0] * 2 + signs[2], signs[0] + signs[3] * 3, signs[2] * 4):
                right = set()
                for squares in itertools.permutations(free, len(material)):
                    row = ["#" if square in game.board.holes else "." for square in range(12)]
                    for square, sign in zip(squares, material):
                        row[square] = sign
                    right.add("".join(row))
                told = placings(game, material)
                self.assertEqual(told, sorted(right))
                self.assertEqual(many_placings(game, material), len(told))
                self.assertTrue(all(is_place(game, (row, 0)) for row in told[::97]))

    def test_no_sign(self):
        self.assertEqual(placings(bare(), ""), ["."])
        self.assertEqual(placings(tag(), ""), ["....#...."])
        self.assertEqual(placings(wide_one(), ""), ["#........##" + "." * 52 + "#"])
        self.assertEqual(many_placings(wide_one(), ""), 1)

    def test_as_many_signs_as_squares_and_more(self):
        game = on(2, 2, [1])
        self.assertEqual(placings(game, "ABa"), ["A#Ba", "A#aB", "B#Aa", "B#aA", "a#AB", "a#BA"])
        self.assertEqual(placings(game, "aaa"), ["a#aa"])
        for material in ("aaaa", "ABab", "AAAAAAAA", "ABZabz", "a" * 70):
            self.assertEqual(placings(game, material), [])
            self.assertEqual(many_placings(game, material), 0)

    def test_one_sign_on_the_greatest_board(self):
        told = placings(wide_one(), "F")
        self.assertEqual(len(told), 60)
        self.assertEqual(told, sorted(told))
        self.assertEqual({row.index("F") for row in told}, set(wide_one().board.squares()))

    def test_very_many(self):
        game = Game(Board(8, 8, []), ["a", "b", "c"], [], [], [], "lost")
        self.assertEqual(many_placings(game, "ABCabc"), math.perm(64, 6))
        self.assertEqual(many_placings(game, "A" * 32), math.comb(64, 32))
        self.assertEqual(many_placings(game, "A" * 32 + "a" * 32), math.comb(64, 32))
        whole = "A" * 11 + "B" * 11 + "C" * 11 + "a" * 11 + "b" * 10 + "c" * 10
        right = math.factorial(64) // math.factorial(11) ** 4 // math.factorial(10) ** 2
        self.assertEqual(many_placings(game, whole), right)
        self.assertEqual(many_placings(game, whole + "c"), 0)
        self.assertEqual(many_placings(wide_one(), "AABBccdd"), math.perm(60, 8) // 16)

    def test_each_list_is_the_askers_own(self):
        game = on(2, 2, [1])
        told = placings(game, "Aa")
        copy = list(told)
        placings(game, "Aa").clear()
        self.assertEqual(told, copy)
        told.append("x")
        self.assertEqual(placings(game, "Aa"), copy)
        self.assertEqual(fields_of(game), fields_of(on(2, 2, [1])))


if __name__ == "__main__":
    unittest.main()
