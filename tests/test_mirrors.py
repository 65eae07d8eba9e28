import unittest

from playboard.backwards import worked
from playboard.boards import Board
from playboard.ends import ending, followers
from playboard.games import Game
from playboard.mirrors import mirrored, mirrored_place, mirrored_square, swapped, swapped_place, swapped_square
from playboard.moves import moves
from playboard.places import is_place
from playboard.webs import Web
from samples import fields_of, games, places, played


def rows_of(game, row):
    wide = game.board.wide
    return [row[start:start + wide] for start in range(0, len(row), wide)]


def all_games():
    return games() + [game for game, _ in played()]


class TestSquares(unittest.TestCase):
    def test_written_out(self):
        board = Board(3, 2, [4])
        self.assertEqual([mirrored_square(board, square) for square in range(6)], [2, 1, 0, 5, 4, 3])
        self.assertEqual([swapped_square(board, square) for square in range(6)], [3, 4, 5, 0, 1, 2])

    def test_every_board(self):
        for wide in range(1, 9):
            for high in range(1, 9):
                board = Board(wide, high, [])
                for square in range(wide * high):
                    column, row = square % wide, square // wide
                    self.assertEqual(mirrored_square(board, square), row * wide + (wide - 1 - column))
                    self.assertEqual(swapped_square(board, square), (high - 1 - row) * wide + column)
                    self.assertEqual(mirrored_square(board, mirrored_square(board, square)), square)
                    self.assertEqual(swapped_square(board, swapped_square(board, square)), square)


class TestGames(unittest.TestCase):
    def test_mirrored(self):
        for game in all_games():
            before = fields_of(game)
            told = mirrored(game)
            self.assertIsInstance(told, Game)
            wide, high, holes, kinds, rules, turns, ends, stuck = before
            right = sorted(hole // wide * wide + wide - 1 - hole % wide for hole in holes)
            turned = [(kind, sort, aim, -across, up) for kind, sort, aim, across, up in rules]
            self.assertEqual(fields_of(told), (wide, high, right, kinds, turned, turns, ends, stuck))
            self.assertEqual(fields_of(game), before)
            self.assertEqual(fields_of(mirrored(told)), before)

    def test_swapped(self):
        for game in all_games():
            before = fields_of(game)
            told = swapped(game)
            self.assertIsInstance(told, Game)
            wide, high, holes, kinds, rules, turns, ends, stuck = before
            right = sorted((high - 1 - hole // wide) * wide + hole % wide for hole in holes)
            self.assertEqual(fields_of(told), (wide, high, right, kinds, rules, turns, ends, stuck))
            self.assertEqual(fields_of(game), before)
            self.assertEqual(fields_of(swapped(told)), before)

    def test_the_lists_are_its_own(self):
        for game in all_games():
            for told in (mirrored(game), swapped(game)):
                before = fields_of(game)
                copies = tuple(list(part) if isinstance(part, list) else part for part in before)
                for part in (told.kinds, told.rules, told.turns, told.ends, told.board.holes):
                    part.append("x")
                self.assertEqual(before, copies)
                self.assertEqual(fields_of(game), copies)


class TestPlaces(unittest.TestCase):
    def test_written_out(self):
        game = Game(Board(3, 2, [3]), ["a", "b"], [], [], [], "lost")
        place = ("Ab.#.B", 0)
        self.assertEqual(mirrored_place(game, place), (".bAB.#", 0))
        self.assertEqual(swapped_place(game, place), ("#.baB.", 1))
        self.assertEqual(mirrored_place(game, ("...#..", 1)), (".....#", 1))
        self.assertEqual(swapped_place(game, ("...#..", 1)), ("#.....", 0))

    def test_against_rows(self):
        for game in all_games():
            for row, _ in places(game, 30):
                for side in (0, 1):
                    rows = rows_of(game, row)
                    told = mirrored_place(game, (row, side))
                    self.assertEqual(told, ("".join(part[::-1] for part in rows), side))
                    self.assertTrue(is_place(mirrored(game), told))
                    self.assertEqual(mirrored_place(mirrored(game), told), (row, side))
                    told = swapped_place(game, (row, side))
                    self.assertEqual(told, ("".join(reversed(rows)).swapcase(), 1 - side))
                    self.assertTrue(is_place(swapped(game), told))
                    self.assertEqual(swapped_place(swapped(game), told), (row, side))


class TestTurnedAbout(unittest.TestCase):
    def check(self, game, place, other, there, square_by, place_by):
        """Moves, ending and followers of a place are those of the other one, turned about."""
        board = game.board
        turned = [
            tuple(-1 if square == -1 else square_by(board, square) for square in move) for move in moves(game, place)
        ]
        self.assertEqual(sorted(turned), moves(other, there))
        self.assertEqual(ending(game, place), ending(other, there))
        behind = [place_by(game, follower) for follower in followers(game, place)]
        self.assertEqual(sorted(behind), sorted(followers(other, there)))

    def test_moves_endings_and_followers(self):
        for game in all_games():
            for row, _ in places(game, 40):
                for place in ((row, 0), (row, 1)):
                    self.check(game, place, mirrored(game), mirrored_place(game, place), mirrored_square, mirrored_place)
                    self.check(game, place, swapped(game), swapped_place(game, place), swapped_square, swapped_place)

    def test_words(self):
        for game, start in played():
            web = Web(game, [start], 5000)
            words = worked(web.nexts(), web.known())
            for other, place_by in ((mirrored(game), mirrored_place), (swapped(game), swapped_place)):
                there = Web(other, [place_by(game, start)], len(web.places))
                others = worked(there.nexts(), there.known())
                self.assertEqual(len(there.places), len(web.places))
                for place, word in zip(web.places, words):
                    self.assertEqual(others[there.number(place_by(game, place))], word)


if __name__ == "__main__":
    unittest.main()
