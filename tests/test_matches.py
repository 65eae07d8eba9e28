import random
import unittest

from playboard.boards import Board
from playboard.errors import BadPlace, NoMove, NothingBack, Over
from playboard.games import Game
from playboard.matches import Match
from playboard.moves import done, moves
from playboard.movetexts import move_text
from samples import ODD_THINGS, chase, ending_by_signs, fields_of, games, places, played, race, tag

SIDEWAYS = [("a", "leap", "any", 1, 0), ("a", "leap", "any", -1, 0)]


def corridor():
    """Two pieces in rows of their own, which go there and back."""
    return Game(Board(2, 2, []), ["a"], SIDEWAYS, [], [], "even")


def state(match):
    return (match.here(), match.texts(), match.outcome())


class TestBegin(unittest.TestCase):
    def test_at_any_place(self):
        for game in games():
            for place in places(game, 40):
                match = Match(game, place)
                self.assertEqual(match.here(), place)
                self.assertEqual(match.texts(), [])
                self.assertIs(match.game, game)

    def test_what_is_no_place(self):
        game = tag()
        right = "A...#...a"
        wrong = [
            (right[:-1], 0), (right + ".", 0), ("B...#...a", 0), ("A.......a", 0), ("A...##..a", 0), (right, 2), (right, -1),
            (right, True), (right, False), (right, None), (right, "0"), [right, 0], right, (right,), (right, 0, 0), (0, right),
        ]
        for thing in wrong + ODD_THINGS:
            with self.assertRaises(BadPlace):
                Match(game, thing)


class TestPlay(unittest.TestCase):
    def test_moves_and_back(self):
        game = race()
        match = Match(game, ("P...........p...", 0))
        self.assertIsNone(match.play("a1-a2"))
        self.assertEqual(state(match), (("....P.......p...", 1), ["a1-a2"], None))
        self.assertIsNone(match.play("a4-a3"))
        self.assertEqual(state(match), (("....P...p.......", 0), ["a1-a2", "a4-a3"], "second"))
        self.assertIsNone(match.back())
        self.assertEqual(state(match), (("....P.......p...", 1), ["a1-a2"], None))
        match.back()
        self.assertEqual(state(match), (("P...........p...", 0), [], None))
        with self.assertRaises(NothingBack):
            match.back()
        self.assertEqual(state(match), (("P...........p...", 0), [], None))

    def test_what_is_no_move_changes_nothing(self):
        match = Match(chase(), ("KR.........k", 0))
        match.play("b1-c1")
        before = state(match)
        for text in ("", "a1-a2", "d3-d4", "d3-D2", " d3-d2", "d3-d2 ", "d3xd2", "d3", "none", "b1-c1", "play d3-d2"):
            with self.assertRaises(NoMove):
                match.play(text)
            self.assertEqual(state(match), before)
        match.play("d3-d2")
        self.assertEqual(match.texts(), ["b1-c1", "d3-d2"])

    def test_over_goes_ahead_of_no_move(self):
        game = chase()
        match = Match(game, ("K..R.......k", 0))
        match.play("d1xd3")
        before = state(match)
        self.assertEqual(before, (("K..........R", 1), ["d1xd3"], "first"))
        for text in ("", "d3-d2", "a1-a2", "no text"):
            with self.assertRaises(Over):
                match.play(text)
            self.assertEqual(state(match), before)
        # Over by its first place, though there are moves.
        match = Match(game, ("K...........", 0))
        self.assertNotEqual(moves(game, match.here()), [])
        for text in ("a1-a2", "x"):
            with self.assertRaises(Over):
                match.play(text)
        with self.assertRaises(NothingBack):
            match.back()
        self.assertEqual(state(match), (("K...........", 0), [], "first"))

    def test_takes_jumps_and_turns(self):
        rules = [("m", "jump", "hit", 1, 1), ("m", "leap", "go", 1, 1)]
        game = Game(Board(4, 4, []), ["m", "d"], rules, [("m", "d")], [], "lost")
        match = Match(game, (".M....m.........", 0))
        match.play("b1xc2-d3")
        self.assertEqual(state(match), (("...........M....", 1), ["b1xc2-d3"], "first"))
        match = Match(game, ("........M..m....", 0))
        match.play("a3-b4")
        self.assertEqual(match.here(), ("...........m.D..", 1))


class TestThirdTime(unittest.TestCase):
    def test_there_and_back_until_the_third_time(self):
        match = Match(corridor(), ("A..a", 0))
        ring = ["a1-b1", "b2-a2", "b1-a1", "a2-b2"]
        for number, text in enumerate(ring * 2):
            self.assertIsNone(match.outcome(), number)
            match.play(text)
        self.assertEqual(match.here(), ("A..a", 0))
        self.assertEqual(match.outcome(), "even")
        for text in ("a1-b1", "x"):
            with self.assertRaises(Over):
                match.play(text)
        self.assertEqual(match.texts(), ring * 2)
        match.back()
        self.assertIsNone(match.outcome())
        match.play("a2-b2")
        self.assertEqual(match.outcome(), "even")

    def test_what_was_taken_back_does_not_count(self):
        match = Match(corridor(), ("A..a", 0))
        for _ in range(5):
            match.play("a1-b1")
            match.back()
        self.assertIsNone(match.outcome())
        for text in ("a1-b1", "b2-a2", "b1-a1", "a2-b2", "a1-b1"):
            match.play(text)
        for _ in range(5):
            match.back()
            match.play("a1-b1")
        self.assertIsNone(match.outcome())

    def test_the_same_row_by_the_other_side_is_another_place(self):
        rules = SIDEWAYS + [("a", "leap", "go", 2, 0)]
        game = Game(Board(3, 2, []), ["a"], rules, [], [], "even")
        match = Match(game, ("A....a", 0))
        # By the leap of two squares the first side comes back a move later than the second one.
        for text in ("a1-c1", "c2-b2", "c1-b1", "b2-c2", "b1-a1"):
            match.play(text)
        self.assertEqual(match.here(), ("A....a", 1))
        for text in ("c2-b2", "a1-b1", "b2-c2", "b1-a1"):
            match.play(text)
        # The row stands there for the third time, the place for the second.
        self.assertEqual(match.here(), ("A....a", 1))
        self.assertIsNone(match.outcome())

    def test_a_later_place_may_be_the_one(self):
        match = Match(corridor(), ("A..a", 0))
        ring = ["a1-b1", "b2-a2", "b1-a1", "a2-b2"]
        other = Match(corridor(), (".A.a", 1))
        for text in (ring[1:] + ring[:1]) * 2:
            self.assertIsNone(other.outcome())
            other.play(text)
        self.assertEqual(other.outcome(), "even")
        self.assertEqual(other.here(), (".A.a", 1))
        self.assertIsNone(match.outcome())


class TestOutcome(unittest.TestCase):
    def test_first_second_and_even_by_either_side_to_move(self):
        game = chase()
        told = {
            ("K...........", 0): "first", ("K...........", 1): "first", ("k...........", 0): "second",
            ("k...........", 1): "second", ("K..........k", 0): None, ("K..........k", 1): None,
            ("............", 0): "second", ("............", 1): "first",
        }
        for place, outcome in told.items():
            self.assertEqual(Match(game, place).outcome(), outcome)

    def test_each_stuck_word(self):
        told = {"lost": ["second", "first"], "won": ["first", "second"], "even": ["even", "even"]}
        for stuck, outcomes in told.items():
            game = Game(Board(2, 1, []), ["a"], [], [], [], stuck)
            self.assertEqual([Match(game, ("Aa", side)).outcome() for side in (0, 1)], outcomes)

    def test_against_signs(self):
        for game in games() + [game for game, _ in played()]:
            for row, _ in places(game, 60):
                for side in (0, 1):
                    sides = ("first", "second")
                    told = {"won": sides[side], "lost": sides[1 - side], "even": "even", None: None}
                    end = ending_by_signs(game, (row, side))
                    self.assertEqual(Match(game, (row, side)).outcome(), told[end])


class TestByChance(unittest.TestCase):
    def play_on(self, chance, game, start):
        match = Match(game, start)
        told, texts = [start], []
        for _ in range(60):
            here = told[-1]
            end = ending_by_signs(game, here)
            over = end is not None or told.count(here) == 3
            self.assertEqual(match.here(), here)
            self.assertEqual(match.texts(), texts)
            self.assertEqual(match.outcome() is not None, over)
            if over and end is None:
                self.assertEqual(match.outcome(), "even")
            if over or chance.random() < 0.2:
                if over:
                    with self.assertRaises(Over):
                        match.play("a1-a2")
                if texts:
                    match.back()
                    told.pop()
                    texts.pop()
                else:
                    with self.assertRaises(NothingBack):
                        match.back()
            else:
                move = chance.choice(moves(game, here))
                match.play(move_text(game, move))
                told.append(done(game, here, move))
                texts.append(move_text(game, move))

    def test_games(self):
        chance = random.Random(3)
        for game, start in played() + [(corridor(), ("A..a", 0))] * 5:
            for _ in range(4):
                self.play_on(chance, game, start)

    def test_two_matches_beside_one_another(self):
        game = race()
        one, other = Match(game, ("P...........p...", 0)), Match(game, ("P...........p...", 0))
        one.play("a1-a2")
        self.assertEqual(state(other), (("P...........p...", 0), [], None))
        with self.assertRaises(NothingBack):
            other.back()
        other.play("a1-a2")
        one.back()
        self.assertEqual(state(other), (("....P.......p...", 1), ["a1-a2"], None))
        self.assertEqual(fields_of(game), fields_of(race()))

    def test_each_list_is_the_askers_own(self):
        match = Match(race(), ("P...........p...", 0))
        match.play("a1-a2")
        told = match.texts()
        match.texts().clear()
        match.back()
        self.assertEqual(told, ["a1-a2"])
        told.append("x")
        self.assertEqual(match.texts(), [])
        with self.assertRaises(NothingBack):
            match.back()


if __name__ == "__main__":
    unittest.main()
