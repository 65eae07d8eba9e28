import unittest

from playboard.boards import Board
from playboard.errors import NoMove
from playboard.games import Game
from playboard.moves import moves
from playboard.movetexts import move_of, move_text
from samples import draughts, fields_of, games, places

SIGNS = "abcdefghi0123456789-x AB#."


def square_by_signs(game, square):
    return "abcdefgh"[square % game.board.wide] + "12345678"[square // game.board.wide]


def text_by_signs(game, move):
    start, goal = square_by_signs(game, move[0]), square_by_signs(game, move[1])
    if move[2] == -1:
        return start + "-" + goal
    if move[2] == move[1]:
        return start + "x" + goal
    return start + "x" + square_by_signs(game, move[2]) + "-" + goal


def changes_of(text):
    for place in range(len(text) + 1):
        yield text[:place]
        yield text[place:]
        yield text[:place] + text[place + 1:]
        for sign in SIGNS:
            yield text[:place] + sign + text[place:]
            yield text[:place] + sign + text[place + 1:]


class TestWritten(unittest.TestCase):
    def test_the_three_forms(self):
        game = Game(Board(3, 3, []), ["a"], [], [], [], "lost")
        self.assertEqual(move_text(game, (0, 4, -1)), "a1-b2")
        self.assertEqual(move_text(game, (0, 4, 4)), "a1xb2")
        self.assertEqual(move_text(game, (0, 8, 4)), "a1xb2-c3")
        self.assertEqual(move_text(game, (8, 0, 4)), "c3xb2-a1")
        self.assertEqual(move_text(game, (1, 0, 0)), "b1xa1")
        self.assertEqual(move_text(game, (2, 1, 0)), "c1xa1-b1")

    def test_on_boards_of_other_sizes(self):
        game = Game(Board(8, 8, []), ["a"], [], [], [], "lost")
        self.assertEqual(move_text(game, (7, 56, -1)), "h1-a8")
        self.assertEqual(move_text(game, (63, 45, 54)), "h8xg7-f6")
        game = Game(Board(1, 8, []), ["a"], [], [], [], "lost")
        self.assertEqual(move_text(game, (0, 7, 7)), "a1xa8")

    def test_each_move(self):
        for game in games():
            for place in places(game, 60):
                for move in moves(game, place):
                    self.assertEqual(move_text(game, move), text_by_signs(game, move))


class TestRead(unittest.TestCase):
    def outcome(self, game, place, text):
        try:
            return move_of(game, place, text)
        except NoMove:
            return None

    def refused(self, game, place, text):
        with self.subTest(place=place, text=text):
            with self.assertRaises(NoMove):
                move_of(game, place, text)

    def test_what_is_written_is_the_move(self):
        for game in games():
            for row, _ in places(game, 40):
                for side in (0, 1):
                    for move in moves(game, (row, side)):
                        told = move_of(game, (row, side), text_by_signs(game, move))
                        self.assertEqual(told, move)
                        self.assertIs(type(told), tuple)

    def test_every_other_text(self):
        for game, place in (
            (draughts(), ("Mm..D..m....Mm.d.M..", 0)), (draughts(), ("MD......M.....m....d", 1)),
            (Game(Board(3, 2, [4]), ["a"], [("a", "leap", "any", 1, 0), ("a", "jump", "hit", 1, 0)], [], [], "lost"), ("Aa..#.", 0)),
        ):
            by_text = {text_by_signs(game, move): move for move in moves(game, place)}
            self.assertNotEqual(by_text, {})
            for text in by_text:
                for change in changes_of(text):
                    self.assertEqual(self.outcome(game, place, change), by_text.get(change), change)

    def test_capitals_joined_and_empty(self):
        game, place = draughts(), ("Mm..D..m....Mm.d.M..", 0)
        texts = [text_by_signs(game, move) for move in moves(game, place)]
        for text in texts:
            for change in (text.upper(), text + text, text + " " + text, " " + text, text + " ", text.replace("x", "X")[::-1]):
                self.refused(game, place, change)
            for other in texts:
                self.refused(game, place, text + other)
                self.refused(game, place, text + " " + other)
        for text in ("", " ", "-", "x", "a1", "a1-", "-a1", "a1-a1", "none", "moves", "a1-z9", "a0-a1"):
            self.refused(game, place, text)

    def test_moves_of_the_other_side(self):
        game, row = draughts(), "Mm..D..m....Mm.d.M.."
        for side in (0, 1):
            for move in moves(game, (row, side)):
                self.refused(game, (row, 1 - side), text_by_signs(game, move))

    def test_the_form_tells_what_is_taken(self):
        rules = [("a", "leap", "any", 1, 0), ("a", "jump", "hit", 1, 0), ("a", "leap", "any", 2, 0)]
        game = Game(Board(3, 1, []), ["a"], rules, [], [], "lost")
        self.assertEqual(move_of(game, ("Aa.", 0), "a1xb1"), (0, 1, 1))
        self.assertEqual(move_of(game, ("Aa.", 0), "a1xb1-c1"), (0, 2, 1))
        self.assertEqual(move_of(game, ("Aa.", 0), "a1-c1"), (0, 2, -1))
        self.assertEqual(move_of(game, ("A..", 0), "a1-b1"), (0, 1, -1))
        for text in ("a1-b1", "a1xc1", "a1xb1-b1", "a1xc1-b1", "a1-b1-c1", "a1xb1xc1"):
            self.refused(game, ("Aa.", 0), text)

    def test_where_there_are_no_moves(self):
        game = Game(Board(2, 1, []), ["a"], [], [], [], "lost")
        for text in ("", "a1-b1", "a1xb1"):
            self.refused(game, ("A.", 0), text)
            self.refused(game, ("..", 1), text)

    def test_nothing_is_changed(self):
        game, place = draughts(), ("Mm..D..m....Mm.d.M..", 0)
        for move in moves(game, place):
            move_of(game, place, move_text(game, move))
        self.refused(game, place, "x")
        self.assertEqual(fields_of(game), fields_of(draughts()))

    def test_two_games_asked_by_turns(self):
        board = Board(4, 2, [])
        one = Game(board, ["a"], [("a", "leap", "any", 1, 0)], [], [], "lost")
        other = Game(board, ["a"], [("a", "leap", "any", 2, 0)], [], [], "lost")
        for _ in range(2):
            self.assertEqual(move_of(one, ("A.......", 0), "a1-b1"), (0, 1, -1))
            self.assertEqual(move_of(other, ("A.......", 0), "a1-c1"), (0, 2, -1))
            self.refused(one, ("A.......", 0), "a1-c1")
            self.refused(other, ("A.......", 0), "a1-b1")


if __name__ == "__main__":
    unittest.main()
