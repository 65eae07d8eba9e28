import random
import unittest

from playboard.answers import answered
from playboard.backwards import worked
from playboard.boards import Board
from playboard.ends import ending, followers
from playboard.errors import BadBoard, BadGame, BadLine, BadPlace
from playboard.games import Game
from playboard.moves import done, moves
from playboard.movetexts import move_text
from playboard.notes import written
from playboard.showing import shown
from playboard.webs import Web
from samples import chase, crowns, played, pushing, race, riders, tag

NO_QUESTIONS = [
    "", " ", "Moves", "MOVES", "moves ", " moves", "moves x", "move", "words", "word ", " word", "word x", "Word", "best ", "best 1",
    "Best", "line", "line ", "line x", "line -1", "line 100", "line 07", "line 00", "line -0", "line +1", "line 1 ", "line  1",
    " line 1", "line 1 2", "line 1.0", "line 1000000000", "line 12345678901", "Line 1", "line1", "line none", "lines 3", "play",
    "Play a1-a2", "PLAY a1-a2", " play a1-a2", "played a1-a2", "play-a1-a2", "back ", " back", "back 1", "Back", "show ", "Show",
    "show x", "outcome ", "Outcome", "outcome x", "out", "over", "none", "done", "no question", "moves word", "moves/show", "a1-a2",
]


def asked(game, place, questions, most=5000):
    return answered(written(game), shown(game, place), questions, most)


def stuck_game(stuck):
    """The first side can go to and fro, the second one can't move at all."""
    rules = [("a", "leap", "go", 1, 0), ("a", "leap", "go", -1, 0)]
    return Game(Board(2, 2, []), ["a", "b"], rules, [], [], stuck)


class TestWrittenOut(unittest.TestCase):
    def test_a_won_place(self):
        game, place = chase(), ("K..R.......k", 0)
        questions = ["moves", "show", "word", "best", "line 0", "line 1", "line 9", "line 99", "outcome", "back"]
        texts = "a1-b1 a1-a2 a1-b2 d1-b1 d1-c1 d1-d2 d1xd3"
        told = [texts, "...k/..../K..R/first", "won in 1", "d1xd3", "none", "d1xd3", "d1xd3", "d1xd3", "open", "nothing back"]
        self.assertEqual(asked(game, place, questions), told)

    def test_a_lost_place(self):
        game, place = chase(), ("..K......R.k", 1)
        questions = ["moves", "show", "word", "best", "line 1", "line 2"]
        texts = "d3-c2 d3-d2 d3-c3"
        told = [texts, ".R.k/..../..K./second", "lost in 2", texts, "d3-c2", "d3-c2 c1xc2"]
        self.assertEqual(asked(game, place, questions), told)

    def test_a_place_that_is_over(self):
        game, place = chase(), ("K...........", 0)
        questions = ["moves", "word", "best", "line 0", "line 5", "outcome", "play a1-a2", "play x", "back", "show"]
        told = ["none", "won in 0", "none", "none", "none", "first", "over", "over", "nothing back", "..../..../K.../first"]
        self.assertEqual(asked(game, place, questions, 1), told)
        self.assertNotEqual(moves(game, place), [])

    def test_each_outcome(self):
        game = chase()
        told = {
            ("K...........", 0): "first", ("K...........", 1): "first", ("k...........", 0): "second",
            ("k...........", 1): "second", ("K..........k", 1): "open",
        }
        for place, outcome in told.items():
            self.assertEqual(asked(game, place, ["outcome"]), [outcome])
        for stuck, outcome in (("lost", "first"), ("won", "second"), ("even", "even")):
            told = [outcome, "even" if stuck == "even" else stuck + " in 0", "none", "none", "none"]
            self.assertEqual(asked(stuck_game(stuck), ("A..b", 1), ["outcome", "word", "best", "line 4", "moves"]), told)

    def test_play_and_back(self):
        game, place = race(), ("P...........p...", 0)
        questions = ["play a1-a3", "play a1-a2", "moves", "play a1-a2", "play a4-a3", "outcome", "show", "play x", "back", "outcome"]
        questions += ["back", "back", "show"]
        told = ["no move", "done", "a4-a3", "no move", "done", "second", "..../p.../P.../..../first", "over", "done", "open"]
        told += ["done", "nothing back", "p.../..../..../P.../first"]
        self.assertEqual(asked(game, place, questions), told)

    def test_play_takes_all_behind_the_first_blank(self):
        game, place = race(), ("P...........p...", 0)
        for text in ("", " ", " a1-a2", "a1-a2 ", "a1-a2 a4-a3", "A1-A2", "play a1-a2", "a1xa2"):
            self.assertEqual(asked(game, place, ["play " + text, "play a1-a2"]), ["no move", "done"])

    def test_jumps_and_takes(self):
        game, place = crowns(), ("M....m..............", 0)
        self.assertEqual(asked(game, place, ["moves", "play a1xb2-c3", "outcome"]), ["a1xb2-c3", "done", "first"])

    def test_nothing_is_asked(self):
        self.assertEqual(asked(chase(), ("K..........k", 0), []), [])


class TestLine(unittest.TestCase):
    def test_up_to_99_moves(self):
        game, place = tag(), ("A...#...a", 0)
        told = asked(game, place, ["line 99", "line 7"])
        self.assertEqual([len(text.split(" ")) for text in told], [99, 7])
        self.assertTrue(told[0].startswith(told[1] + " "))

    def test_each_to_the_first_best_follower(self):
        for game, start in played():
            web = Web(game, [start], 5000)
            nexts, words = web.nexts(), worked(web.nexts(), web.known())
            here, texts = 0, []
            while nexts[here] and len(texts) < 12:
                name, n = words[here]
                aim = {"won": ("lost", n - 1), "lost": ("won", n - 1), "even": ("even", 0)}[name]
                follower = min(way for way in nexts[here] if words[way] == aim)
                move = moves(game, web.places[here])[nexts[here].index(follower)]
                texts.append(move_text(game, move))
                here = follower
            self.assertEqual(asked(game, start, ["line 12"]), [" ".join(texts) or "none"])


class TestByWebs(unittest.TestCase):
    def test_best_moves_word_and_line_of_places(self):
        for game, start in played():
            web = Web(game, [start], 5000)
            words = worked(web.nexts(), web.known())
            for number in sorted({0, 1, len(words) // 2, len(words) - 1} & set(range(len(words)))):
                place, (name, n) = web.places[number], words[number]
                ways = moves(game, place) if ending(game, place) is None else []
                aim = {"won": ("lost", n - 1), "lost": ("won", n - 1), "even": ("even", 0)}[name]
                right = [move for move in ways if words[web.number(done(game, place, move))] == aim]
                told = asked(game, place, ["moves", "word", "best"])
                self.assertEqual(told[0], " ".join(move_text(game, move) for move in ways) or "none")
                self.assertEqual(told[1], "even" if name == "even" else f"{name} in {n}")
                self.assertEqual(told[2], " ".join(move_text(game, move) for move in right) or "none")
                self.assertEqual(len(ways), len(followers(game, place)))

    def test_after_moves_they_tell_of_the_new_place(self):
        game, place = pushing(), ("A.#.A.aa.", 0)
        told = asked(game, place, ["word", "line 99"])
        texts = told[1].split(" ")
        self.assertEqual(told[0], f"won in {len(texts)}")
        questions, right = [], []
        for number, text in enumerate(texts):
            questions += ["play " + text, "word", "best", "line 1", "word"]
            left = len(texts) - number - 1
            right.append(f"{['won', 'lost'][(number + 1) % 2]} in {left}")
        answers = asked(game, place, questions)
        self.assertEqual(answers[0::5], ["done"] * len(texts))
        self.assertEqual(answers[1::5], right)
        self.assertEqual(answers[4::5], right)
        back = asked(game, place, ["play " + texts[0], "word", "back", "word"])
        self.assertEqual(back, ["done", right[0], "done", told[0]])

    def test_too_wide_ahead_of_all_else(self):
        game, place = chase(), ("KR.........k", 0)
        many = len(Web(game, [place], 5000).places)
        by_web = ["word", "best", "line 0", "line 1", "line 99"]
        for most in (1, 2, many - 1):
            self.assertEqual(asked(game, place, by_web, most), ["too wide"] * 5)
        self.assertNotIn("too wide", asked(game, place, by_web, many))
        self.assertEqual(asked(game, place, by_web, many), asked(game, place, by_web, 5000))

    def test_too_wide_leaves_the_others_as_they_are(self):
        game, place = chase(), ("KR.........k", 0)
        questions = ["moves", "show", "outcome", "play b1-c1", "back", "back", "play x"]
        self.assertEqual(asked(game, place, questions, 1), asked(game, place, questions, 5000))
        self.assertEqual(asked(game, place, NO_QUESTIONS, 1), ["no question"] * len(NO_QUESTIONS))

    def test_too_wide_and_behind_a_move_not_any_more(self):
        game, place = chase(), ("K..R.......k", 0)
        questions = ["word", "play d1xd3", "word", "best", "line 3", "back", "word"]
        told = ["too wide", "done", "lost in 0", "none", "none", "done", "too wide"]
        self.assertEqual(asked(game, place, questions, 1), told)


class TestThirdTime(unittest.TestCase):
    def test_all_but_play_and_outcome_look_at_the_place_alone(self):
        rules = [("a", "leap", "go", 1, 0), ("a", "leap", "go", -1, 0)]
        game = Game(Board(2, 2, []), ["a"], rules, [], [], "lost")
        place = ("A..a", 0)
        ring = ["play a1-b1", "play b2-a2", "play b1-a1", "play a2-b2"]
        looks = ["moves", "show", "word", "best", "line 3"]
        first = asked(game, place, looks)
        self.assertEqual(first, ["a1-b1", ".a/A./first", "even", "a1-b1", "a1-b1 b2-a2 b1-a1"])
        told = asked(game, place, ring + ring + looks + ["outcome", "play a1-b1", "play x", "back", "outcome", "play a2-b2", "outcome"])
        self.assertEqual(told, ["done"] * 8 + first + ["even", "over", "over", "done", "open", "done", "even"])


class TestNoQuestion(unittest.TestCase):
    def test_other_texts(self):
        for game, place in ((chase(), ("KR.........k", 0)), (chase(), ("K...........", 0)), (stuck_game("lost"), ("A..b", 1))):
            for most in (1, 5000):
                self.assertEqual(asked(game, place, NO_QUESTIONS, most), ["no question"] * len(NO_QUESTIONS))

    def test_they_change_nothing(self):
        game, place = race(), ("P...........p...", 0)
        told = asked(game, place, ["play a1-a2"] + NO_QUESTIONS + ["show", "play a4-a3"])
        self.assertEqual(told[-2:], ["p.../..../P.../..../second", "done"])


class TestRefusals(unittest.TestCase):
    def refused(self, error, game_lines, place_lines):
        for questions in ([], ["moves"], ["no such question", "word"]):
            with self.assertRaises(error) as caught:
                answered(game_lines, place_lines, questions, 1)
        return caught.exception

    def test_as_game_of_then_as_place_of(self):
        game, place = chase(), ("K..........k", 0)
        lines, picture = written(game), shown(game, place)
        for right_or_wrong in (picture, [], ["x"], picture[:-1]):
            self.assertEqual(self.refused(BadLine, [], right_or_wrong).at, 0)
            self.assertEqual(self.refused(BadLine, lines[:-1], right_or_wrong).at, len(lines) - 1)
            self.assertEqual(self.refused(BadLine, lines[:2] + ["what"] + lines[2:], right_or_wrong).at, 2)
            self.refused(BadBoard, ["board 9 3"] + lines[1:], right_or_wrong)
            self.refused(BadGame, lines[:2] + ["kind k"] + lines[2:], right_or_wrong)
        for wrong in ([], ["first"], picture[:-1], picture + ["first"], picture[1:], picture[:-1] + ["third"], ["...q"] + picture[1:]):
            self.refused(BadPlace, lines, wrong)


class TestByChance(unittest.TestCase):
    def test_long_rows_of_questions(self):
        chance = random.Random(8)
        for game, start in [pair for pair in played() if len(Web(pair[0], [pair[1]], 5000).places) < 500]:
            told, questions, right = [start], [], []
            for _ in range(60):
                here = told[-1]
                over = ending(game, here) is not None or told.count(here) == 3
                way = chance.choice(["back", "play", "play", "play", "show", "wrong"])
                if way == "back":
                    questions.append("back")
                    right.append("done" if len(told) > 1 else "nothing back")
                    told = told[:-1] or told
                elif way == "show":
                    questions.append("show")
                    right.append("/".join(shown(game, here)))
                elif over or way == "wrong" or not moves(game, here):
                    questions.append("play a1-a1")
                    right.append("over" if over else "no move")
                else:
                    move = chance.choice(moves(game, here))
                    questions.append("play " + move_text(game, move))
                    right.append("done")
                    told.append(done(game, here, move))
            self.assertEqual(asked(game, start, questions), right)


class TestOwnLists(unittest.TestCase):
    def test_nothing_is_changed_and_the_answers_are_the_askers_own(self):
        game, place = riders(), ("GGh#n...gSnS#.jGj.J...NJ.", 0)
        lines, picture, questions = written(game), shown(game, place), ["moves", "word", "play x", "line 3"]
        told = answered(lines, picture, questions, 5000)
        self.assertEqual((lines, picture), (written(game), shown(game, place)))
        self.assertEqual(questions, ["moves", "word", "play x", "line 3"])
        copy = list(told)
        answered(lines, picture, questions, 5000).clear()
        for part in (lines, picture, questions):
            part.clear()
        self.assertEqual(told, copy)


if __name__ == "__main__":
    unittest.main()
