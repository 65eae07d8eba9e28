"""Games by chance, worked out in all ways that the program has: all of them tell the same."""

import random
import unittest

from playboard.answers import answered
from playboard.backwards import worked
from playboard.books import book_of, holds
from playboard.endings import Endings
from playboard.materials import material_of
from playboard.mirrors import mirrored, mirrored_place, swapped, swapped_place
from playboard.notes import game_of, written
from playboard.showing import shown
from playboard.webs import Web
from playboard.wordings import word_text
from samples import ending_by_signs, fields_of, follows, game_by_chance, place_by_chance, places_by_signs


class TestGamesByChance(unittest.TestCase):
    def check_words(self, web, words):
        nexts = web.nexts()
        for place, ways, word in zip(web.places, nexts, words):
            end = ending_by_signs(web.game, place)
            if end is None:
                self.assertTrue(follows(word, [words[way] for way in ways]))
            else:
                self.assertEqual(word, (end, 0))

    def check_endings(self, web, words, signs):
        endings = Endings(web.game)
        endings.work(signs)
        self.assertEqual([endings.word(place) for place in web.places], words)

    def check_turned_about(self, web, words, other, place_by):
        there = Web(other, [place_by(web.game, web.places[0])], len(words))
        others = worked(there.nexts(), there.known())
        self.assertEqual([others[there.number(place_by(web.game, place))] for place in web.places], words)

    def check_texts(self, web, words):
        lines, picture = written(web.game), shown(web.game, web.places[0])
        self.assertEqual(fields_of(game_of(lines)), fields_of(web.game))
        told = answered(lines, picture, ["word", "line 99"], len(words))
        self.assertEqual(told[0], word_text(words[0]))
        if words[0][0] != "even":
            texts = [] if told[1] == "none" else told[1].split(" ")
            self.assertEqual(len(texts), words[0][1])
            played = answered(lines, picture, ["play " + text for text in texts] + ["outcome"], len(words))
            winner = web.places[0][1] if words[0][0] == "won" else 1 - web.places[0][1]
            self.assertEqual(played, ["done"] * len(texts) + [["first", "second"][winner]])

    def test_all_ways_tell_the_same(self):
        chance = random.Random(21)
        met = set()
        for _ in range(400):
            game = game_by_chance(chance)
            before = repr(fields_of(game))
            start = place_by_chance(chance, game)
            web = Web(game, [start], 100000)
            words = worked(web.nexts(), web.known())
            self.assertEqual(web.places, places_by_signs(game, [start]))
            self.check_words(web, words)
            signs = list(material_of(start[0]))
            chance.shuffle(signs)
            self.check_endings(web, words, "".join(signs))
            self.check_turned_about(web, words, mirrored(game), mirrored_place)
            self.check_turned_about(web, words, swapped(game), swapped_place)
            self.check_texts(web, words)
            self.assertIs(holds(game, book_of(game, start, len(words))), True)
            self.assertEqual(repr(fields_of(game)), before)
            met.update(words)
        self.assertGreater(len(met), 10)
        self.assertEqual({name for name, _ in met}, {"won", "lost", "even"})


if __name__ == "__main__":
    unittest.main()
