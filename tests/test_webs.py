import unittest

from playboard.boards import Board
from playboard.ends import ending, followers
from playboard.errors import BadPlace, TooWide
from playboard.games import Game
from playboard.webs import Web
from samples import (
    ODD_THINGS, STEPS, chase, ending_by_signs, fields_of, followers_by_signs, hunt, places_by_signs, played, race, riders, tag,
)

# Things beside the right row "A...#...a" and the right side.
NO_PLACES = [
    ("A...#..a", 0), ("A...#...a.", 0), ("", 0), ("B...#...a", 0), ("A...#...b", 1), ("A...#...?", 0), ("A...#... ", 0),
    ("A.......a", 0), ("A...#..#a", 0), ("#...#...a", 1), ("A...a...#", 0), ("A...#...a", 2), ("A...#...a", -1),
    ("A...#...a", True), ("A...#...a", False), ("A...#...a", None), ("A...#...a", "0"), ("A...#...a", [0]),
    ["A...#...a", 0], "A...#...a", ("A...#...a",), ("A...#...a", 0, 0), (0, "A...#...a"), (None, 0), (["A"], 0), ((), 0),
    ("A...#...a", 10 ** 30),
]


class TestPlaces(unittest.TestCase):
    def test_against_signs(self):
        for game, start in played():
            web = Web(game, [start], 5000)
            self.assertEqual(web.places, places_by_signs(game, [start]), start)

    def test_written_out(self):
        game = Game(Board(3, 1, []), ["a"], [("a", "leap", "any", 1, 0), ("a", "leap", "any", -1, 0)], [], [], "lost")
        web = Web(game, [("A..", 0)], 10)
        self.assertEqual(web.places, [("A..", 0), (".A.", 1)])
        self.assertEqual(web.nexts(), [[1], []])
        self.assertEqual(web.known(), [None, ("lost", 0)])
        web = Web(game, [("A.a", 0)], 10)
        self.assertEqual(web.places, [("A.a", 0), (".Aa", 1), (".a.", 0)])
        self.assertEqual(web.nexts(), [[1], [2], []])
        self.assertEqual(web.known(), [None, None, ("lost", 0)])

    def test_a_ring(self):
        game = Game(Board(2, 2, []), ["a"], [("a", "leap", "any", 1, 0), ("a", "leap", "any", -1, 0)], [], [], "even")
        web = Web(game, [("A..a", 0)], 8)
        self.assertEqual(web.places, [("A..a", 0), (".A.a", 1), (".Aa.", 0), ("A.a.", 1)])
        self.assertEqual(web.nexts(), [[1], [2], [3], [0]])
        self.assertEqual(web.known(), [None] * 4)

    def test_several_starts(self):
        game = tag()
        starts = [("A...#...a", 0), (".A..#...a", 1), ("A...#...a", 1), ("aA..#....", 1)]
        web = Web(game, starts, 5000)
        self.assertEqual(web.places[:4], starts)
        self.assertEqual(web.places, places_by_signs(game, starts))
        other = Web(game, list(reversed(starts)), 5000)
        self.assertEqual(other.places, places_by_signs(game, starts[::-1]))
        self.assertNotEqual(other.places, web.places)
        self.assertEqual(sorted(other.places), sorted(web.places))

    def test_the_same_start_twice(self):
        game = race()
        one, two = ("P...........p...", 0), (".P...........p..", 1)
        web = Web(game, [one, two, one, two, two], 5000)
        self.assertEqual(web.places, Web(game, [one, two], 5000).places)
        self.assertEqual(web.places[:2], [one, two])

    def test_a_start_that_comes_of_another(self):
        game = race()
        one = ("P...........p...", 0)
        two = followers(game, one)[0]
        three = followers(game, two)[0]
        for starts in ([one, two], [two, one], [one, three, two], [three, one]):
            web = Web(game, starts, 5000)
            self.assertEqual(web.places, places_by_signs(game, starts))
            self.assertEqual(web.places[:len(starts)], starts)
            self.assertEqual(len(web.places), len(Web(game, [one], 5000).places))

    def test_each_place_once(self):
        for game, start in played():
            told = Web(game, [start], 5000).places
            self.assertEqual(len(set(told)), len(told))

    def test_nothing_behind_a_place_that_is_over(self):
        game = chase()
        for place in (("K...........", 0), ("K...........", 1), (".R.........k", 0), ("............", 0)):
            web = Web(game, [place], 1)
            self.assertEqual(web.places, [place])
            self.assertEqual(web.nexts(), [[]])
            self.assertEqual(web.known(), [(ending_by_signs(game, place), 0)])

    def test_no_starts(self):
        web = Web(chase(), [], 1)
        self.assertEqual((web.places, web.nexts(), web.known()), ([], [], []))

    def test_the_game_is_the_very_one(self):
        game = chase()
        self.assertIs(Web(game, [("K..........k", 0)], 5000).game, game)
        self.assertEqual(fields_of(game), fields_of(chase()))


class TestNumbers(unittest.TestCase):
    def test_of_each_place(self):
        for game, start in played():
            web = Web(game, [start], 5000)
            for number, place in enumerate(web.places):
                self.assertEqual(web.number(place), number)

    def test_of_a_place_that_is_not_there(self):
        game = race()
        web = Web(game, [("P...........p...", 0)], 5000)
        self.assertEqual(web.number(("P...........p...", 0)), 0)
        for place in (("P...........p...", 1), (".P..........p...", 0), ("................", 0), ("Q...........p...", 0)):
            self.assertIsNone(web.number(place))

    def test_of_a_row_and_a_number_that_is_no_side(self):
        game = tag()
        web = Web(game, [("A...#...a", 0), ("A...#...a", 1)], 5000)
        for side in (2, -1, 3, 10 ** 30, True, False):
            self.assertIsNone(web.number(("A...#...a", side)))
        self.assertEqual(web.number(("A...#...a", 1)), 1)

    def test_nexts_and_known(self):
        for game, start in played():
            web = Web(game, [start], 5000)
            nexts, known = web.nexts(), web.known()
            self.assertEqual(len(nexts), len(web.places))
            self.assertEqual(len(known), len(web.places))
            for place, ways, word in zip(web.places, nexts, known):
                self.assertEqual([web.places[number] for number in ways], followers_by_signs(game, place))
                end = ending_by_signs(game, place)
                self.assertEqual(word, None if end is None else (end, 0))
                self.assertEqual(end, ending(game, place))

    def test_known_words_of_each_form(self):
        for stuck in ("lost", "even", "won"):
            game = Game(Board(2, 1, []), ["a"], [], [], [], stuck)
            self.assertEqual(Web(game, [("A.", 0), ("A.", 1)], 2).known(), [(stuck, 0)] * 2)
        game = chase()
        self.assertEqual(Web(game, [("K...........", 0), ("K...........", 1)], 2).known(), [("won", 0), ("lost", 0)])


class TestRefusals(unittest.TestCase):
    def test_bad_place(self):
        right = ("A...#...a", 0)
        for thing in NO_PLACES + ODD_THINGS:
            for starts in ([thing], [thing, right], [right, thing], [right, right, thing, right]):
                with self.assertRaises(BadPlace, msg=starts):
                    Web(tag(), starts, 5000)

    def test_bad_place_ahead_of_too_wide(self):
        right = [("A...#...a", 0), ("A...#..a.", 0), ("A...#.a..", 0)]
        for thing in NO_PLACES:
            for most in (1, 2, 3):
                with self.assertRaises(BadPlace):
                    Web(tag(), right + [thing], most)
                with self.assertRaises(BadPlace):
                    Web(tag(), [thing] + right, most)

    def test_too_wide_with_one_place_less(self):
        for game, start in played():
            many = len(places_by_signs(game, [start]))
            self.assertEqual(len(Web(game, [start], many).places), many)
            self.assertEqual(len(Web(game, [start], many + 1).places), many)
            if many > 1:
                with self.assertRaises(TooWide):
                    Web(game, [start], many - 1)
                with self.assertRaises(TooWide):
                    Web(game, [start], 1)

    def test_too_many_starts(self):
        game = chase()
        starts = [("K...........", 0), ("K...........", 1), (".K..........", 0)]
        self.assertEqual(Web(game, starts, 3).places, starts)
        self.assertEqual(Web(game, starts * 4, 3).places, starts)
        with self.assertRaises(TooWide):
            Web(game, starts, 2)

    def test_a_place_that_is_there_already_takes_no_room(self):
        game = race()
        one = ("P...........p...", 0)
        two = followers(game, one)[0]
        many = len(Web(game, [one], 5000).places)
        self.assertEqual(len(Web(game, [one, two, one], many).places), many)

    def test_a_very_wide_one_is_refused_without_all_its_places(self):
        game = riders()
        row = "".join("#" if square in game.board.holes else "nN."[square % 3] for square in range(25))
        rules = [("n", "leap", "any", across, up) for across, up in STEPS]
        free = Game(game.board, game.kinds, rules, [], [], "even")
        for most in (1, 2, 50, 5000):
            with self.assertRaises(TooWide):
                Web(free, [(row, 0)], most)


class TestOwnLists(unittest.TestCase):
    def test_starts_stay_and_may_be_changed_later(self):
        game = tag()
        starts = [("A...#...a", 0), ("A...#...a", 1), ("A...#...a", 0)]
        copy = list(starts)
        web = Web(game, starts, 5000)
        self.assertEqual(starts, copy)
        told = (list(web.places), web.nexts(), web.known())
        starts.clear()
        self.assertEqual((web.places, web.nexts(), web.known()), told)
        self.assertEqual(web.number(("A...#...a", 1)), 1)

    def test_what_is_told_is_the_askers_own(self):
        game = hunt()
        web = Web(game, [("#MKR.Pp#kkmm", 0)], 5000)
        nexts, known = web.nexts(), web.known()
        copies = ([list(ways) for ways in nexts], list(known))
        other = web.nexts()
        for ways in other:
            ways.append(7)
        other.clear()
        web.known().clear()
        self.assertEqual((nexts, known), copies)
        self.assertEqual((web.nexts(), web.known()), copies)
        nexts[0].clear()
        known[0] = "x"
        self.assertEqual((web.nexts(), web.known()), copies)

    def test_two_webs_beside_one_another(self):
        game = tag()
        one = Web(game, [("A...#...a", 0)], 5000)
        copy = list(one.places)
        Web(game, [("A...#...a", 1)], 5000)
        self.assertEqual(one.places, copy)
        self.assertIsNone(one.number(("AA..#...a", 1)))


if __name__ == "__main__":
    unittest.main()
