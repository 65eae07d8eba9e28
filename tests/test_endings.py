import unittest

from playboard.backwards import worked
from playboard.boards import Board
from playboard.endings import Endings
from playboard.ends import ending, followers
from playboard.errors import NoWord
from playboard.games import Game
from playboard.materials import closed, material_of
from playboard.placings import placings
from playboard.webs import Web
from samples import chase, crowns, fields_of, follows, hunt, played, pushing, race, strip, tag


def on_board(game, wide, high, holes):
    return Game(Board(wide, high, holes), game.kinds, game.rules, game.turns, game.ends, game.stuck)


def small_games():
    """Games with texts of one to four signs in any order."""
    return [
        (tag(), ["a", "Aa", "aAa", "AaAa", "aaaA"]), (on_board(pushing(), 3, 2, []), ["B", "bA", "Aba", "baAB"]),
        (strip(), ["b", "aAb", "abAB", "AAaa"]), (on_board(chase(), 3, 2, []), ["K", "kK", "kRK", "rKkR", "RRKk"]),
        (on_board(race(), 2, 4, []), ["p", "pP", "PpP", "pPPp"]), (on_board(crowns(), 3, 3, [5]), ["dM", "mMD", "mDmM"]),
        (hunt(), ["k", "kK", "KpM"]), (on_board(hunt(), 2, 3, []), ["pPkK"]),
    ]


class TestWords(unittest.TestCase):
    def check_all(self, game, endings):
        """Each placing's word follows from those of its followers; tells the words that were met."""
        met = set()
        for material in endings.materials():
            for row in placings(game, material):
                for side in (0, 1):
                    word = endings.word((row, side))
                    met.add(word)
                    end = ending(game, (row, side))
                    if end is not None:
                        self.assertEqual(word, (end, 0))
                    else:
                        others = [endings.word(place) for place in followers(game, (row, side))]
                        self.assertTrue(follows(word, others), (row, side, word))
        return met

    def test_every_placing_by_either_side(self):
        for game, texts in small_games():
            met = set()
            for text in texts:
                endings = Endings(game)
                self.assertIsNone(endings.work(text))
                met |= self.check_all(game, endings)
            self.assertEqual({name for name, _ in met} & {"won", "lost"}, {"won", "lost"})
            self.assertGreater(max(n for _, n in met), 1)

    def test_the_words_are_those_that_webs_tell(self):
        many = 0
        for game, start in played():
            if len(material_of(start[0])) in range(1, 5) and len(placings(game, material_of(start[0]))) < 5000:
                endings = Endings(game)
                endings.work(material_of(start[0]))
                web = Web(game, [start], 5000)
                words = worked(web.nexts(), web.known())
                self.assertEqual([endings.word(place) for place in web.places], words)
                many += len(words)
        self.assertGreater(many, 5000)

    def test_the_words_are_those_of_a_web_from_all_placings(self):
        for game, material in ((tag(), "Aaa"), (pushing(), "ABa"), (strip(), "ABab")):
            starts = [(row, side) for row in placings(game, material) for side in (0, 1)]
            web = Web(game, starts, 5000)
            words = worked(web.nexts(), web.known())
            endings = Endings(game)
            endings.work(material)
            self.assertEqual([endings.word(place) for place in web.places], words)

    def test_written_out(self):
        endings = Endings(chase())
        endings.work("kRK")
        self.assertEqual(endings.word(("KR.........k", 0)), ("won", 7))
        self.assertEqual(endings.word(("K..R.......k", 0)), ("won", 1))
        self.assertEqual(endings.word(("..K......R.k", 1)), ("lost", 2))
        self.assertEqual(endings.word(("K...........", 0)), ("won", 0))
        self.assertEqual(endings.word(("K...........", 1)), ("lost", 0))
        self.assertEqual(endings.word(("K..........k", 0)), ("even", 0))

    def test_one_text_after_the_other_or_all_at_once(self):
        game = pushing()
        whole = Endings(game)
        whole.work("ABab")
        parts = Endings(game)
        for text in ("b", "aA", "BaA", "abB", "baBA"):
            parts.work(text)
        self.assertEqual(parts.materials(), whole.materials())
        for material in whole.materials():
            for row in placings(game, material):
                for side in (0, 1):
                    self.assertEqual(parts.word((row, side)), whole.word((row, side)))


class TestMaterials(unittest.TestCase):
    def test_just_those_worked_and_all_that_they_lead_to(self):
        for game, texts in small_games():
            endings = Endings(game)
            self.assertEqual(endings.materials(), [])
            right = set()
            for text in texts:
                endings.work(text)
                right |= set(closed(game, "".join(sorted(text))))
                self.assertEqual(endings.materials(), sorted(right))

    def test_written_out(self):
        endings = Endings(chase())
        endings.work("rK")
        self.assertEqual(endings.materials(), ["K", "Kr", "r"])
        endings.work("kK")
        self.assertEqual(endings.materials(), ["K", "Kk", "Kr", "k", "r"])

    def test_again_and_of_one_that_another_one_led_to(self):
        game = tag()
        endings = Endings(game)
        endings.work("AaA")
        told = endings.materials()
        words = {(row, side): endings.word((row, side)) for row in placings(game, "AAa") for side in (0, 1)}
        for text in ("aAA", "AAa", "AaA", "aA", "a", "AA"):
            self.assertIsNone(endings.work(text))
            self.assertEqual(endings.materials(), told)
            self.assertEqual({place: endings.word(place) for place in words}, words)

    def test_without_placings(self):
        game = Game(Board(3, 1, []), ["a"], [("a", "leap", "any", 1, 0)], [], [], "lost")
        endings = Endings(game)
        self.assertIsNone(endings.work("aAaA"))
        self.assertEqual(endings.materials(), sorted(closed(game, "AAaa")))
        self.assertIn("AAaa", endings.materials())
        self.assertEqual(endings.word(("AAa", 0)), ("won", 1))
        self.assertEqual(endings.word(("AAa", 1)), ("lost", 0))
        endings.work("AAAA")
        self.assertEqual(endings.materials(), sorted(closed(game, "AAaa") + ["AAAA"]))

    def test_each_list_is_the_askers_own(self):
        endings = Endings(tag())
        endings.work("Aa")
        told = endings.materials()
        endings.materials().clear()
        endings.work("aaA")
        self.assertEqual(told, ["A", "Aa", "a"])
        told.append("x")
        self.assertEqual(endings.materials(), ["A", "Aa", "Aaa", "a", "aa"])


class TestNoWord(unittest.TestCase):
    def test_until_it_is_worked_out(self):
        game = chase()
        endings = Endings(game)
        places = [("KR.........k", 0), ("K..........k", 1), ("K...........", 0), ("R...........", 1), ("............", 0)]
        for place in places:
            with self.assertRaises(NoWord):
                endings.word(place)
        endings.work("Kk")
        self.assertEqual(endings.word(places[1]), ("even", 0))
        self.assertEqual(endings.word(places[2]), ("won", 0))
        for place in (places[0], places[3], places[4]):
            with self.assertRaises(NoWord):
                endings.word(place)
        endings.work("KRk")
        self.assertEqual(endings.word(places[0]), ("won", 7))
        self.assertEqual(endings.word(places[3]), ("lost", 0))
        with self.assertRaises(NoWord):
            endings.word(places[4])
        with self.assertRaises(NoWord):
            endings.word(("KR........rk", 0))

    def test_two_endings_beside_one_another(self):
        game = chase()
        one, other = Endings(game), Endings(game)
        one.work("Kk")
        self.assertEqual(other.materials(), [])
        with self.assertRaises(NoWord):
            other.word(("K..........k", 0))
        self.assertEqual(fields_of(game), fields_of(chase()))


if __name__ == "__main__":
    unittest.main()
