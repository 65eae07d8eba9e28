import itertools
import unittest

from playboard.boards import Board
from playboard.errors import BadPlace
from playboard.games import Game
from playboard.places import is_place
from playboard.showing import place_of, shown
from samples import games, places


def game_on(board):
    return Game(board, ["k", "a"], [], [], [], "lost")


def all_places(game):
    many = game.board.wide * game.board.high
    rows = ["".join(signs) for signs in itertools.product(".#kKaA", repeat=many)]
    return [(row, side) for row in rows for side in (0, 1) if is_place(game, (row, side))]


class TestShown(unittest.TestCase):
    def test_written_out(self):
        game = game_on(Board(3, 2, [4, 0]))
        self.assertEqual(shown(game, ("#..k#A", 0)), ["k#A", "#..", "first"])
        self.assertEqual(shown(game, ("#..k#A", 1)), ["k#A", "#..", "second"])
        game = game_on(Board(2, 3, []))
        self.assertEqual(shown(game, ("K.a..A", 1)), [".A", "a.", "K.", "second"])
        self.assertEqual(shown(game_on(Board(1, 1, [])), (".", 0)), [".", "first"])
        self.assertEqual(shown(game_on(Board(4, 1, [])), ("kA..", 0)), ["kA..", "first"])
        self.assertEqual(shown(game_on(Board(1, 4, [])), ("kA..", 0)), [".", ".", "A", "k", "first"])

    def test_each_size(self):
        for wide, high in itertools.product(range(1, 9), repeat=2):
            game = game_on(Board(wide, high, []))
            row = "".join("kKaA."[(square * square + square) % 5] for square in range(wide * high))
            lines = shown(game, (row, 0))
            self.assertEqual(len(lines), high + 1)
            for line in range(high):
                for column in range(wide):
                    self.assertEqual(lines[high - 1 - line][column], row[line * wide + column])

    def test_each_list_is_the_askers_own(self):
        game = game_on(Board(2, 2, []))
        told = shown(game, ("k..A", 0))
        again = shown(game, ("k..A", 0))
        again.clear()
        self.assertEqual(told, [".A", "k.", "first"])
        told.append("x")
        self.assertEqual(shown(game, ("k..A", 0)), [".A", "k.", "first"])


class TestRead(unittest.TestCase):
    def outcome(self, game, lines):
        try:
            return place_of(game, lines)
        except BadPlace:
            return None

    def refused(self, game, lines):
        with self.subTest(lines=lines):
            with self.assertRaises(BadPlace):
                place_of(game, lines)

    def test_what_is_shown_is_the_place(self):
        for game in games():
            for place in places(game, 30):
                told = place_of(game, shown(game, place))
                self.assertEqual(told, place)
                self.assertIs(type(told), tuple)
                self.assertIs(type(told[1]), int)
                self.assertIs(is_place(game, told), True)

    def test_all_lines_of_a_small_board(self):
        for board in (Board(2, 1, []), Board(1, 2, [1]), Board(2, 2, [0])):
            game = game_on(board)
            by_lines = {tuple(shown(game, place)): place for place in all_places(game)}
            parts = ["".join(signs) for many in range(4) for signs in itertools.product(".#kA", repeat=many)]
            words = ["first", "second", "", "third"]
            for many in range(3):
                for chosen in itertools.product(parts, repeat=many):
                    for word in words:
                        lines = list(chosen) + [word]
                        self.assertEqual(self.outcome(game, lines), by_lines.get(tuple(lines)), lines)

    def test_lines_less_more_and_exchanged(self):
        for game, place in ((game_on(Board(3, 3, [4, 0])), ("#.kA#.aK.", 0)), (game_on(Board(2, 2, [])), ("kK.a", 1))):
            lines = shown(game, place)
            by_lines = {tuple(shown(game, other)): other for other in all_places(game_on(Board(2, 2, [])))}
            for at in range(len(lines)):
                self.refused(game, lines[:at] + lines[at + 1:])
                self.refused(game, lines[:at] + [lines[at]] + lines[at:])
                self.refused(game, lines[:at])
                for line in ("", "...", "..", "first", "second", "."):
                    self.refused(game, lines[:at] + [line] + lines[at:])
                self.refused(game, lines + [lines[at]])
            for order in itertools.permutations(lines):
                if game.board.wide == 2:
                    self.assertEqual(self.outcome(game, list(order)), by_lines.get(order))
                elif list(order) != lines:
                    self.refused(game, list(order))

    def test_exchanged_lines_may_show_another_place(self):
        game = game_on(Board(2, 2, []))
        self.assertEqual(place_of(game, ["k.", ".A", "first"]), (".Ak.", 0))
        self.assertEqual(place_of(game, [".A", "k.", "first"]), ("k..A", 0))

    def test_signs_more_less_or_others(self):
        game = game_on(Board(3, 2, [4, 0]))
        lines = shown(game, ("#..k#A", 1))
        rows = {tuple(shown(game, place)): place for place in all_places(game)}
        for at, line in enumerate(lines):
            for place in range(len(line) + 1):
                changes = [line[:place] + sign + line[place:] for sign in ".#kKaAbB /01f"]
                changes += [line[:place] + sign + line[place + 1:] for sign in ".#kKaAbB /01f"]
                changes += [line[:place] + line[place + 1:], line[:place], line[place:]]
                for change in changes:
                    changed = lines[:at] + [change] + lines[at + 1:]
                    self.assertEqual(self.outcome(game, changed), rows.get(tuple(changed)), changed)

    def test_lines_that_join_to_a_right_row(self):
        game = game_on(Board(2, 2, []))
        for lines in ([".A.", "k"], [".", "A.k"], ["", "k..A"], ["k..A"], [".", "A", ".", "k"], [".A", "k.", ""], ["", ".A", "k."]):
            self.refused(game, lines + ["first"])
        self.refused(game, [".Ak.first"])
        self.refused(game, [".A", "k.first"])

    def test_last_words(self):
        game = game_on(Board(2, 1, []))
        self.assertEqual(place_of(game, ["k.", "first"]), ("k.", 0))
        self.assertEqual(place_of(game, ["k.", "second"]), ("k.", 1))
        for word in ("", "First", "SECOND", "third", "first ", " second", "0", "1", "firstsecond", "k.", "f"):
            self.refused(game, ["k.", word])

    def test_no_lines(self):
        for game in games():
            self.refused(game, [])
            self.refused(game, ["first"])
            self.refused(game, ["second"])
            self.refused(game, [""])
            self.refused(game, ["", "first"])

    def test_nothing_is_changed(self):
        game = game_on(Board(2, 2, []))
        for lines in ([".A", "k.", "first"], ["k.", "first"], [".A", "k.", "x"]):
            copy = list(lines)
            self.outcome(game, lines)
            self.assertEqual(lines, copy)


if __name__ == "__main__":
    unittest.main()
