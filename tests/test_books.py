import itertools
import random
import unittest

from playboard.backwards import worked
from playboard.boards import Board
from playboard.books import book_of, holds
from playboard.ends import ending, followers
from playboard.errors import BadPlace, TooWide
from playboard.games import Game
from playboard.webs import Web
from samples import (
    ODD_THINGS, chase, ending_by_signs, fields_of, followers_by_signs, games, places, played, pushing, race, tag,
)

NO_NUMBERS = [True, False, None, "0", "", "x"]


def holds_by_words(game, lines):
    """Whether all lines hold, asked point by point."""
    def fine(place, claim, leads):
        row, to_move = place
        word, side, n = claim
        numbers = [thing for thing in (to_move, side, n) + leads if type(thing) is not int]
        if numbers or to_move not in (0, 1) or side not in (0, 1) or n < 0 or word not in ("win", "safe"):
            return False
        signs = set("." + "".join(game.kinds) + "".join(game.kinds).upper())
        if len(row) != game.board.wide * game.board.high:
            return False
        if any(sign != "#" if square in game.board.holes else sign not in signs for square, sign in enumerate(row)):
            return False
        return (word == "win" or n == 0) and all(lead in range(len(lines)) for lead in leads)

    if not all(fine(*line) for line in lines):
        return False
    for place, (word, side, n), leads in lines:
        end = ending_by_signs(game, place)
        if end is not None:
            winner = {"won": place[1], "lost": 1 - place[1], "even": None}[end]
            if leads or (winner != side if word == "win" else winner == 1 - side):
                return False
            continue
        goals = [lines[lead][0] for lead in leads]
        ways = followers_by_signs(game, place)
        if goals not in ([[way] for way in ways] if place[1] == side else [ways]):
            return False
        for lead in leads:
            other_word, other_side, other_n = lines[lead][1]
            if other_side != side or (word == "win" and (other_word != "win" or other_n >= n)):
                return False
    return True


def true_by_web(game, lines):
    """Whether each claim is so by the words of the web from all its places."""
    web = Web(game, [line[0] for line in lines], 100000)
    words = worked(web.nexts(), web.known())
    for place, (word, side, n), _ in lines:
        name, far = words[web.number(place)]
        wins = name == ("won" if place[1] == side else "lost")
        loses = name == ("lost" if place[1] == side else "won")
        if (word == "win" and not (wins and far <= n)) or (word == "safe" and loses):
            return False
    return True


def small_books():
    """Books with all words, by webs of few places."""
    starts = [
        (race(), ("P...........p...", 0)), (race(), ("P............p..", 1)), (race(), ("PP..........pp..", 0)),
        (tag(), ("A...#...a", 0)), (pushing(), ("A.#.A.aa.", 0)), (chase(), ("..K......R.k", 1)), (chase(), ("K..........k", 1)),
        (chase(), ("K...........", 0)), (chase(), ("K...........", 1)), (corridor(), ("A..a", 0)),
    ]
    return [(game, book_of(game, place, 5000)) for game, place in starts]


def corridor():
    rules = [("a", "leap", "any", 1, 0), ("a", "leap", "any", -1, 0)]
    return Game(Board(2, 2, []), ["a"], rules, [], [], "even")


def with_line(book, at, place=None, claim=None, leads=None):
    old = book[at]
    new = (old[0] if place is None else place, old[1] if claim is None else claim, old[2] if leads is None else leads)
    return book[:at] + [new] + book[at + 1:]


def other_line(chance, book, at):
    """A line of a right book with one thing otherwise in it."""
    place, (word, side, n), leads = book[at]
    way = chance.randrange(9)
    if way == 0:
        return ((place[0], chance.choice([1 - place[1], 2, -1] + NO_NUMBERS)), (word, side, n), leads)
    if way == 1:
        return (chance.choice(book)[0], (word, side, n), leads)
    if way == 2:
        return ((place[0][:-1] + chance.choice(".#aAkKzZ?"), place[1]), (word, side, n), leads)
    if way == 3:
        return (place, (chance.choice(["win", "safe", "won", "Win", "even", ""]), side, n), leads)
    if way == 4:
        return (place, (word, chance.choice([1 - side, 2, -1] + NO_NUMBERS), n), leads)
    if way == 5:
        return (place, (word, side, chance.choice([0, 1, -1, n + 1, n - 1, 10 ** 30] + NO_NUMBERS)), leads)
    if way == 6 and leads:
        new = list(leads)
        new[chance.randrange(len(new))] = chance.choice([-1, len(book), 10 ** 30, at, chance.randrange(len(book))] + NO_NUMBERS)
        return (place, (word, side, n), tuple(new))
    if way == 7:
        return (place, (word, side, n), leads + (chance.choice([0, at, len(book) - 1]),))
    return (place, (word, side, n), chance.choice([leads[:-1], leads[::-1], leads + leads, ()]))


def otherwise(chance, book, many):
    other = list(book)
    for at in chance.sample(range(len(book)), min(many, len(book))):
        other[at] = other_line(chance, book, at)
    return other


class TestHolds(unittest.TestCase):
    def test_no_lines(self):
        for game in games():
            self.assertIs(holds(game, []), True)

    def test_books_that_hold(self):
        for game, book in small_books():
            self.assertIs(holds(game, book), True)
            self.assertTrue(holds_by_words(game, book))

    def test_one_thing_otherwise(self):
        chance = random.Random(12)
        told = {True: 0, False: 0}
        for game, book in small_books():
            for _ in range(150):
                other = otherwise(chance, book, 1)
                right = holds_by_words(game, other)
                self.assertIs(holds(game, other), right, other)
                told[right] += 1
                if right:
                    self.assertTrue(true_by_web(game, other), other)
        self.assertGreater(min(told.values()), 50)

    def test_several_things_otherwise(self):
        chance = random.Random(13)
        for game, book in small_books():
            for _ in range(60):
                other = otherwise(chance, book, chance.randint(2, 4))
                self.assertIs(holds(game, other), holds_by_words(game, other), other)

    def test_all_small_claims_of_each_place(self):
        """Each line alone, and each with all lines of its followers, by every claim."""
        game = race()
        web = Web(game, [("P...........p...", 0)], 5000)
        claims = [(word, side, n) for word in ("win", "safe") for side in (0, 1) for n in (0, 1, 2, 3)]
        for place in web.places:
            ways = followers(game, place)
            for claim in claims:
                self.assertIs(holds(game, [(place, claim, ())]), holds_by_words(game, [(place, claim, ())]))
                for other in claims:
                    lines = [(place, claim, tuple(range(1, len(ways) + 1)))] + [(way, other, ()) for way in ways]
                    self.assertIs(holds(game, lines), holds_by_words(game, lines))


class TestOver(unittest.TestCase):
    def test_who_has_won_and_who_has_not_lost(self):
        won, lost, even = ("K...........", 0), ("K...........", 1), ("R..........r", 0)
        for place in (won, lost):
            for n in (0, 1, 10 ** 30):
                self.assertIs(holds(chase(), [(place, ("win", 0, n), ())]), True)
                self.assertIs(holds(chase(), [(place, ("win", 1, n), ())]), False)
            self.assertIs(holds(chase(), [(place, ("safe", 0, 0), ())]), True)
            self.assertIs(holds(chase(), [(place, ("safe", 1, 0), ())]), False)
            self.assertIs(holds(chase(), [(place, ("safe", 0, 1), ())]), False)
            self.assertIs(holds(chase(), [(place, ("win", 0, -1), ())]), False)
            self.assertIs(holds(chase(), [(place, ("win", 0, 0), (0,))]), False)
        game = Game(Board(4, 3, []), ["r"], [], [], [], "even")
        for side in (0, 1):
            self.assertIs(holds(game, [(even, ("win", side, 0), ())]), False)
            self.assertIs(holds(game, [(even, ("safe", side, 0), ())]), True)

    def test_not_over_without_leads(self):
        for word in ("win", "safe"):
            for side in (0, 1):
                self.assertIs(holds(chase(), [(("K..........k", 0), (word, side, 0), ())]), False)


class TestLeads(unittest.TestCase):
    def setUp(self):
        self.game = race()
        # The first side comes home at once: one move of each of two pieces does it.
        self.start = ("........PP..p...", 0)
        self.ways = followers(self.game, self.start)
        self.assertEqual(len(self.ways), 2)
        self.home = [way for way in self.ways if ending(self.game, way) == "lost"][0]

    def test_one_lead_where_the_side_is_to_move(self):
        end = (self.home, ("win", 0, 0), ())
        self.assertIs(holds(self.game, [(self.start, ("win", 0, 1), (1,)), end]), True)
        self.assertIs(holds(self.game, [(self.start, ("win", 0, 9), (1,)), end]), True)
        self.assertIs(holds(self.game, [(self.start, ("win", 0, 0), (1,)), end]), False)
        self.assertIs(holds(self.game, [(self.start, ("win", 0, 1), (1, 1)), end]), False)
        self.assertIs(holds(self.game, [(self.start, ("win", 0, 1), ()), end]), False)
        self.assertIs(holds(self.game, [(self.start, ("safe", 0, 0), (1,)), end]), True)

    def test_wins_lead_to_a_win_with_an_n_less_alone(self):
        for n, far in itertools.product(range(4), repeat=2):
            lines = [(self.start, ("win", 0, n), (1,)), (self.home, ("win", 0, far), ())]
            self.assertIs(holds(self.game, lines), far < n)
        lines = [(self.start, ("win", 0, 5), (1,)), (self.home, ("safe", 0, 0), ())]
        self.assertIs(holds(self.game, lines), False)

    def test_safe_ones_lead_to_wins_of_any_n_and_to_safe_ones(self):
        for claim in (("win", 0, 0), ("win", 0, 7), ("safe", 0, 0)):
            lines = [(self.start, ("safe", 0, 0), (1,)), (self.home, claim, ())]
            self.assertIs(holds(self.game, lines), True)

    def test_of_the_other_side(self):
        end = (self.home, ("win", 0, 0), ())
        for claim in (("win", 1, 3), ("safe", 1, 0)):
            self.assertIs(holds(self.game, [(self.start, claim, (1,)), end]), False)
            self.assertIs(holds(self.game, [(self.start, claim, (1, 1)), end]), False)

    def test_numbers_that_are_none_or_beyond(self):
        end = (self.home, ("win", 0, 0), ())
        for lead in [-1, 2, 10 ** 30, -(10 ** 30)] + NO_NUMBERS:
            self.assertIs(holds(self.game, [(self.start, ("win", 0, 1), (lead,)), end]), False, lead)
        # True would be the line 1, False the line 0.
        self.assertIs(holds(self.game, [(self.start, ("win", 0, 1), (True,)), end]), False)
        self.assertIs(holds(self.game, [end, (self.start, ("win", 0, 1), (False,))]), False)
        self.assertIs(holds(self.game, [end, (self.start, ("win", 0, 1), (0,))]), True)
        self.assertIs(holds(self.game, [end, (self.start, ("win", 0, 1), (-2,))]), False)

    def test_as_many_as_followers_in_their_order_where_the_other_is_to_move(self):
        rules = corridor().rules + [("a", "leap", "any", 0, 1)]
        game = Game(Board(2, 3, []), ["a"], rules, [], [("home", "a")], "even")
        book = book_of(game, ("A..a..", 0), 5000)
        self.assertIs(holds(game, book), True)
        many = [at for at, line in enumerate(book) if len(line[2]) > 1]
        self.assertNotEqual(many, [])
        for at in many:
            leads = book[at][2]
            for wrong in (leads[::-1], leads[:-1], leads[1:], leads + leads[:1], (leads[0],) * len(leads), ()):
                self.assertIs(holds(game, with_line(book, at, leads=wrong)), False)


class TestForms(unittest.TestCase):
    def check_end(self, place, claim, leads, right):
        self.assertIs(holds(chase(), [(place, claim, leads)]), right, (place, claim, leads))

    def test_places(self):
        row = "K..........."
        self.check_end((row, 0), ("win", 0, 0), (), True)
        for place in ((row, 2), (row, -1), (row[:-1], 0), (row + ".", 0), ("Q...........", 0), ("#K..........", 0), ("", 0)):
            self.check_end(place, ("win", 0, 0), (), False)
        for side in NO_NUMBERS:
            self.check_end((row, side), ("win", 0, 0), (), False)

    def test_claims(self):
        place = ("K...........", 0)
        for word in ("won", "lost", "even", "Win", "SAFE", "", "win "):
            self.check_end(place, (word, 0, 0), (), False)
        for side in [2, -1, 10 ** 30] + NO_NUMBERS:
            self.check_end(place, ("win", side, 0), (), False)
            self.check_end(place, ("safe", side, 0), (), False)
        for n in [-1, -(10 ** 30)] + NO_NUMBERS:
            self.check_end(place, ("win", 0, n), (), False)
            self.check_end(place, ("safe", 0, n), (), False)
        for n in (1, 10 ** 30):
            self.check_end(place, ("win", 0, n), (), True)
            self.check_end(place, ("safe", 0, n), (), False)

    def test_a_claim_that_is_none_is_found_also_where_others_lead_to_it(self):
        start, home = ("........PP..p...", 0), ("........P...pQ..", 1)
        self.assertIs(holds(race(), [(start, ("win", 0, 1), (1,)), (home, ("win", 0, 0), ())]), True)
        for n in NO_NUMBERS:
            lines = [(start, ("win", 0, 1), (1,)), (home, ("win", 0, n), ())]
            self.assertIs(holds(race(), lines), False)
            lines = [(home, ("win", 0, n), ()), (start, ("win", 0, 1), (0,))]
            self.assertIs(holds(race(), lines), False)


class TestManyLines(unittest.TestCase):
    def test_lines_of_either_side_and_two_alike(self):
        game = tag()
        book = book_of(game, ("A...#...a", 0), 5000)
        self.assertEqual({line[1][1] for line in book}, {0, 1})
        self.assertIs(holds(game, book + book), True)
        self.assertIs(holds(game, book + [book[0], book[0]]), True)
        self.assertIs(holds(game, book + [(book[0][0], book[0][1], book[1][2])]), False)

    def test_lines_that_lead_to_themselves(self):
        for game, book in small_books():
            for at, line in list(enumerate(book))[:12]:
                if line[2]:
                    self.assertIs(holds(game, with_line(book, at, leads=(at,) * len(line[2]))), False)

    def test_rings_are_safe_and_no_wins(self):
        game = corridor()
        ring = [("A..a", 0), (".A.a", 1), (".Aa.", 0), ("A.a.", 1)]
        for side in (0, 1):
            lines = [(place, ("safe", side, 0), ((at + 1) % 4,)) for at, place in enumerate(ring)]
            self.assertIs(holds(game, lines), True)
            for n in range(4):
                lines = [(place, ("win", side, n + 4 - at), ((at + 1) % 4,)) for at, place in enumerate(ring)]
                self.assertIs(holds(game, lines), False)

    def test_where_it_holds_all_claims_are_so(self):
        for game, book in small_books():
            self.assertTrue(true_by_web(game, book))
            self.assertIs(holds(game, list(book)), True)


class TestBookOf(unittest.TestCase):
    def test_it_holds_and_its_first_claims_are_the_word(self):
        for game, start in played():
            web = Web(game, [start], 5000)
            words = worked(web.nexts(), web.known())
            for place in sorted({web.places[0], web.places[len(web.places) // 2], web.places[-1]}):
                name, n = words[web.number(place)]
                book = book_of(game, place, 5000)
                self.assertIs(holds(game, book), True)
                self.assertTrue(holds_by_words(game, book))
                self.assertTrue(true_by_web(game, book))
                side = place[1]
                self.assertEqual(book[0][0], place)
                if name == "even":
                    self.assertEqual(book[1][0], place)
                    self.assertEqual([line[1] for line in book[:2]], [("safe", side, 0), ("safe", 1 - side, 0)])
                else:
                    self.assertEqual(book[0][1], ("win", side if name == "won" else 1 - side, n))

    def test_lines_are_tuples_in_a_list(self):
        for _, book in small_books():
            self.assertIs(type(book), list)
            for line in book:
                self.assertEqual([type(part) for part in (line,) + line], [tuple] * 4)

    def test_all_words_are_met(self):
        met = set()
        for game, start in played():
            book = book_of(game, start, 5000)
            met.add((book[0][1][0], book[0][1][1] == start[1]))
        self.assertEqual(met, {("win", True), ("win", False), ("safe", True)})

    def test_places_that_are_over(self):
        game = chase()
        self.assertEqual(book_of(game, ("K...........", 0), 1), [(("K...........", 0), ("win", 0, 0), ())])
        self.assertEqual(book_of(game, ("K...........", 1), 1), [(("K...........", 1), ("win", 0, 0), ())])
        game = Game(Board(2, 1, []), ["a"], [], [], [], "even")
        told = [(("A.", 1), ("safe", 1, 0), ()), (("A.", 1), ("safe", 0, 0), ())]
        self.assertEqual(book_of(game, ("A.", 1), 1), told)

    def test_refusals(self):
        game = tag()
        for thing in [("A...#...a", 2), ("A...#...a", True), ("A.......a", 0), ["A...#...a", 0], ("A...#...a",)] + ODD_THINGS:
            for most in (1, 5000):
                with self.assertRaises(BadPlace):
                    book_of(game, thing, most)
        for other, start in played():
            many = len(Web(other, [start], 5000).places)
            if many > 1:
                with self.assertRaises(TooWide):
                    book_of(other, start, many - 1)
                self.assertIs(holds(other, book_of(other, start, many)), True)

    def test_the_same_book_however_many_places_are_let(self):
        for game, start in played():
            many = len(Web(game, [start], 5000).places)
            book = book_of(game, start, many)
            for most in (many + 1, 10 ** 9):
                self.assertEqual(book_of(game, start, most), book)

    def test_nothing_is_changed_and_the_book_is_the_askers_own(self):
        game = tag()
        book = book_of(game, ("A...#...a", 0), 5000)
        copy = list(book)
        book_of(game, ("A...#...a", 0), 5000).clear()
        holds(game, book)
        self.assertEqual(book, copy)
        book.pop()
        self.assertEqual(book_of(game, ("A...#...a", 0), 5000), copy)
        self.assertEqual(fields_of(game), fields_of(tag()))

    def test_games_by_chance(self):
        many = 0
        for game in games():
            for place in places(game, 60):
                try:
                    book = book_of(game, place, 300)
                except TooWide:
                    continue
                self.assertTrue(holds_by_words(game, book))
                self.assertIs(holds(game, book), True)
                many += 1
        self.assertGreater(many, 100)


if __name__ == "__main__":
    unittest.main()
