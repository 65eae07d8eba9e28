import itertools
import re
import unittest

from playboard.boards import Board
from playboard.errors import BadBoard, BadGame, BadLine
from playboard.games import Game
from playboard.notes import game_of, written
from samples import bare, draughts, fields_of, games, hunt, wide_one

NUMBER = r"(?:0|-?[1-9][0-9]{0,8})"
# In the order in which they stand.
LINES = [
    rf"board {NUMBER} {NUMBER}",
    rf"hole {NUMBER}",
    r"kind [a-z]",
    rf"(?:leap|slide|jump) [a-z] (?:go|hit|any) {NUMBER} {NUMBER}",
    r"turn [a-z] [a-z]",
    r"(?:without|home) [a-z]",
    r"stuck (?:lost|even|won)",
]
SIGNS = " -./0129:Aabkxz~"
HUNT = [
    "board 4 3", "hole 0", "hole 7", "kind k", "kind r", "kind p", "kind m", "leap k any 0 1", "slide r any 1 0",
    "slide r go 0 -1", "leap p go 0 1", "leap p hit -1 1", "leap k any -3 2", "jump m hit 1 -1", "leap p go 0 1",
    "turn p r", "turn m k", "without k", "home p", "without k", "stuck lost",
]


def sort_by_pattern(line):
    for sort, pattern in enumerate(LINES):
        if re.fullmatch(pattern, line):
            return sort
    return None


def first_wrong(lines):
    """The place that BadLine has, by patterns; None where each line stands well."""
    last = None
    for at, line in enumerate(lines):
        sort = sort_by_pattern(line)
        if sort is None or (sort == 0) != (at == 0) or (at and sort < last) or last == 6:
            return at
        last = sort
    return None if last == 6 else len(lines)


def outcome(lines):
    """What game_of does: the place of a bad line, the refusal, or the game's fields."""
    try:
        return fields_of(game_of(lines))
    except BadLine as refusal:
        return refusal.at
    except (BadBoard, BadGame) as refusal:
        return type(refusal)


def expected(lines):
    at = first_wrong(lines)
    if at is not None:
        return at
    words = [line.split(" ") for line in lines]

    def of(*heads):
        return [line for line in words if line[0] in heads]

    try:
        board = Board(int(words[0][1]), int(words[0][2]), [int(line[1]) for line in of("hole")])
        rules = [(line[1], line[0], line[2], int(line[3]), int(line[4])) for line in of("leap", "slide", "jump")]
        turns = [tuple(line[1:]) for line in of("turn")]
        ends = [tuple(line) for line in of("without", "home")]
        return fields_of(Game(board, [line[1] for line in of("kind")], rules, turns, ends, words[-1][1]))
    except (BadBoard, BadGame) as refusal:
        return type(refusal)


class TestWritten(unittest.TestCase):
    def test_written_out(self):
        self.assertEqual(written(hunt()), HUNT)
        self.assertEqual(written(bare()), ["board 1 1", "kind z", "stuck even"])
        game = Game(Board(2, 1, []), ["b", "a"], [], [("b", "a")], [("home", "b")], "won")
        self.assertEqual(written(game), ["board 2 1", "kind b", "kind a", "turn b a", "home b", "stuck won"])
        game = Game(Board(3, 8, [23, 10, 9]), ["q"], [("q", "slide", "go", -1, -1)], [], [], "lost")
        self.assertEqual(written(game), ["board 3 8", "hole 9", "hole 10", "hole 23", "kind q", "slide q go -1 -1", "stuck lost"])

    def test_each_rule(self):
        for across, up in itertools.product(range(-3, 4), repeat=2):
            if (across, up) != (0, 0):
                for aim in ("go", "hit", "any"):
                    game = Game(Board(1, 1, []), ["c"], [("c", "leap", aim, across, up)], [], [], "lost")
                    self.assertEqual(written(game)[2], "leap c " + aim + " " + str(across) + " " + str(up))

    def test_each_line_has_its_form_and_stands_well(self):
        for game in games():
            self.assertIsNone(first_wrong(written(game)))

    def test_each_list_is_the_askers_own(self):
        for game in games():
            told = written(game)
            again = written(game)
            again.clear()
            self.assertEqual(fields_of(game_of(told)), fields_of(game))
            told[0] = "x"
            told.append("y")
            self.assertEqual(fields_of(game_of(written(game))), fields_of(game))

    def test_nothing_is_changed(self):
        game = hunt()
        written(game)
        self.assertEqual(fields_of(game), fields_of(hunt()))


class TestRead(unittest.TestCase):
    def check(self, lines):
        self.assertEqual(outcome(lines), expected(lines), lines)

    def refused(self, lines, at):
        with self.subTest(lines=lines):
            with self.assertRaises(BadLine) as told:
                game_of(lines)
            self.assertEqual(told.exception.at, at)

    def test_the_same_game(self):
        for game in games():
            told = game_of(written(game))
            self.assertIs(type(told), Game)
            self.assertIs(type(told.board), Board)
            self.assertEqual(fields_of(told), fields_of(game))
            self.assertEqual(written(told), written(game))
            for rule in told.rules:
                self.assertEqual([type(part) for part in rule], [str, str, str, int, int])

    def test_hole_lines_in_any_order(self):
        lines = written(wide_one())
        self.assertEqual(lines[1:5], ["hole 0", "hole 9", "hole 10", "hole 63"])
        for holes in itertools.permutations(lines[1:5]):
            self.assertEqual(fields_of(game_of(lines[:1] + list(holes) + lines[5:])), fields_of(wide_one()))

    def test_the_order_of_all_else_is_kept(self):
        lines = ["board 2 2", "kind b", "kind a", "jump a hit 1 1", "leap b go 2 2", "home b", "without a", "home b", "stuck won"]
        game = game_of(lines)
        self.assertEqual(game.kinds, ["b", "a"])
        self.assertEqual(game.rules, [("a", "jump", "hit", 1, 1), ("b", "leap", "go", 2, 2)])
        self.assertEqual(game.ends, [("home", "b"), ("without", "a"), ("home", "b")])

    def test_no_lines(self):
        self.refused([], 0)

    def test_a_line_left_out(self):
        for lines in [written(game) for game in games()]:
            for at in range(len(lines)):
                self.check(lines[:at] + lines[at + 1:])
            for many in range(len(lines)):
                self.refused(lines[:many], many)
        self.refused(HUNT[1:], 0)
        self.refused(HUNT[:-1], len(HUNT) - 1)
        self.assertEqual(outcome([line for line in HUNT if not line.startswith("kind")]), BadGame)
        self.assertEqual(outcome([line for line in HUNT if line != "kind m"]), BadGame)

    def test_a_line_told_twice(self):
        for lines in [written(game) for game in games()]:
            for at in range(len(lines)):
                self.check(lines[:at] + [lines[at]] * 2 + lines[at + 1:])
                self.check(lines + [lines[at]])
                self.check([lines[at]] + lines)
        self.refused(HUNT[:1] + HUNT, 1)
        self.refused(HUNT + HUNT[-1:], len(HUNT))
        self.refused(HUNT + ["stuck won"], len(HUNT))
        self.refused(HUNT + HUNT, len(HUNT))
        self.assertEqual(outcome(["board 2 2", "hole 1", "hole 1", "kind a", "stuck won"]), BadBoard)
        self.assertEqual(outcome(["board 2 2", "hole 1", "kind a", "kind a", "stuck won"]), BadGame)

    def test_lines_exchanged(self):
        for lines in [written(hunt()), written(bare()), written(draughts())]:
            for one, other in itertools.combinations(range(len(lines)), 2):
                changed = list(lines)
                changed[one], changed[other] = lines[other], lines[one]
                self.check(changed)

    def test_a_line_put_elsewhere(self):
        for lines in [written(hunt()), written(bare()), written(draughts())]:
            for start, goal in itertools.product(range(len(lines)), repeat=2):
                changed = list(lines)
                changed.insert(goal, changed.pop(start))
                self.check(changed)

    def test_all_orders_of_one_line_of_each_sort(self):
        lines = ["board 2 2", "hole 1", "kind a", "leap a go 1 0", "turn a b", "home a", "stuck won"]
        for many in range(8):
            for chosen in itertools.permutations(lines, many):
                self.check(list(chosen))

    def test_a_line_that_stands_otherwise(self):
        self.refused(["kind a", "board 2 2", "stuck won"], 0)
        self.refused(["board 2 2", "kind a", "hole 1", "stuck won"], 2)
        self.refused(["board 2 2", "leap a go 1 0", "kind a", "stuck won"], 2)
        self.refused(["board 2 2", "kind a", "home a", "leap a go 1 0", "stuck won"], 3)
        self.refused(["board 2 2", "kind a", "kind b", "home a", "turn a b", "stuck won"], 4)
        self.refused(["board 2 2", "kind a", "board 2 2", "stuck won"], 2)
        self.refused(["board 2 2", "board 2 2", "kind a", "stuck won"], 1)
        self.refused(["board 2 2", "kind a", "stuck won", "home a"], 3)
        self.refused(["board 2 2", "kind a", "stuck won", ""], 3)
        self.refused(["stuck won"], 0)
        self.refused(["board 2 2"], 1)

    def test_the_first_such_line_is_told(self):
        self.refused(["board 2 2", "kind", "board 2 2", "x"], 1)
        self.refused(["board 2 2", "kind a", "hole 1", "x"], 2)
        self.refused(["board 9 9", "hole 70", "hole 70", "kind a", "kind a", "x"], 5)
        self.refused(["board 2 2", "kind a", "x", "stuck won"], 2)

    def test_a_sign_more_less_or_another_one(self):
        lines = [
            "board 4 3", "hole 10", "kind k", "kind r", "leap k any 0 -1", "slide r go 1 0", "jump k hit -1 -1", "turn k r",
            "without k", "home r", "stuck lost",
        ]
        self.assertIsInstance(outcome(lines), tuple)
        for at, line in enumerate(lines):
            for place in range(len(line) + 1):
                changes = [line[:place] + sign + line[place:] for sign in SIGNS]
                changes += [line[:place] + sign + line[place + 1:] for sign in SIGNS]
                changes += [line[:place] + line[place + 1:], line[:place], line[place:]]
                for change in changes:
                    self.check(lines[:at] + [change] + lines[at + 1:])

    def test_a_word_more_less_or_another_one(self):
        words = "board hole kind leap slide jump turn without home stuck go hit any lost even won a k r 0 1 -1 70".split() + [""]
        lines = ["board 4 3", "hole 7", "kind k", "kind r", "leap k any 0 1", "turn k r", "home k", "stuck lost"]
        for at, line in enumerate(lines):
            parts = line.split(" ")
            for place in range(len(parts) + 1):
                changes = [parts[:place] + parts[place + 1:]]
                changes += [parts[:place] + [word] + parts[place:] for word in words]
                changes += [parts[:place] + [word] + parts[place + 1:] for word in words]
                for change in changes:
                    self.check(lines[:at] + [" ".join(change)] + lines[at + 1:])

    def test_words_exchanged(self):
        lines = ["board 4 3", "hole 7", "kind k", "kind r", "leap k any 0 1", "turn k r", "home k", "stuck lost"]
        for at, line in enumerate(lines):
            for parts in itertools.permutations(line.split(" ")):
                self.check(lines[:at] + [" ".join(parts)] + lines[at + 1:])

    def test_blanks(self):
        for at, line in enumerate(HUNT):
            for change in ("", " ", " " + line, line + " ", line.replace(" ", "  "), line.replace(" ", ""), line.upper()):
                self.refused(HUNT[:at] + [change] + HUNT[at + 1:], at)

    def test_numbers_that_are_none(self):
        for word in ("", "00", "01", "-0", "-", "--1", "+1", "1.", "1e1", "1_0", "0x1", "-01", "1000000000", "-1000000000", "one"):
            self.refused(["board " + word + " 2", "kind a", "stuck won"], 0)
            self.refused(["board 2 " + word, "kind a", "stuck won"], 0)
            self.refused(["board 2 2", "hole " + word, "kind a", "stuck won"], 1)
            self.refused(["board 2 2", "kind a", "leap a go " + word + " 1", "stuck won"], 2)
            self.refused(["board 2 2", "kind a", "leap a go 1 " + word, "stuck won"], 2)

    def test_a_line_tells_only_a_form(self):
        end = ["kind a", "kind b", "stuck won"]
        for number in ("70", "-1", "4", "999999999", "-999999999"):
            self.assertEqual(outcome(["board 2 2", "hole " + number] + end), BadBoard)
        for size in ("0 1", "1 0", "9 1", "1 9", "-1 -1", "999999999 999999999"):
            self.assertEqual(outcome(["board " + size] + end), BadBoard)
        self.assertEqual(outcome(["board 1 2", "hole 1", "hole 0"] + end), BadBoard)
        for line in (
            "leap a go 0 0", "leap a go 4 0", "leap a go 0 -4", "leap c go 1 0", "slide a go 2 0", "jump a go 1 0", "jump a any 1 0",
            "jump a hit 1 -2", "slide z any 1 1", "leap a any 999999999 -999999999", "turn a a", "turn a c", "turn c a", "home c",
            "without z",
        ):
            self.assertEqual(outcome(["board 2 2"] + end[:2] + [line] + end[2:]), BadGame)
        self.assertEqual(outcome(["board 2 2", "stuck won"]), BadGame)

    def test_counts_are_no_matter_of_lines(self):
        head, last = ["board 2 2", "kind a", "kind b"], ["stuck even"]
        for many in range(28):
            self.assertEqual(outcome(head + ["leap a go 1 0"] * many + last) == BadGame, many > 24)
        for many in range(9):
            self.assertEqual(outcome(head + ["home a"] * many + last) == BadGame, many > 6)
            kind_lines = ["kind " + kind for kind in "abcdefghi"[:many]]
            self.assertEqual(outcome(head[:1] + kind_lines + last) == BadGame, many not in range(1, 7))
            self.check(head + ["turn a b"] * many + last)

    def test_board_is_refused_ahead_of_the_game(self):
        self.assertEqual(outcome(["board 9 9", "stuck won"]), BadBoard)
        self.assertEqual(outcome(["board 2 2", "hole 70", "leap z go 9 9", "stuck won"]), BadBoard)

    def test_a_line_is_refused_ahead_of_the_board(self):
        self.refused(["board 9 9", "hole 70", "stuck"], 2)
        self.refused(["board 9 9"], 1)

    def test_each_letter_is_a_kind(self):
        for kind in "abcdefghijklmnopqrstuvwxyz":
            self.assertEqual(game_of(["board 1 1", "kind " + kind, "stuck won"]).kinds, [kind])
        for kind in ("A", "Z", "", "ab", "1", "-", "`", "{", "."):
            self.refused(["board 1 1", "kind " + kind, "stuck won"], 1)

    def test_nothing_is_changed(self):
        for lines in (list(HUNT), HUNT[:5], HUNT + ["x"], ["board 9 9", "stuck won"]):
            copy = list(lines)
            outcome(lines)
            self.assertEqual(lines, copy)

    def test_lines_may_be_changed_later(self):
        lines = list(HUNT)
        game = game_of(lines)
        lines[0] = "board 8 8"
        lines.clear()
        self.assertEqual(fields_of(game), fields_of(hunt()))


if __name__ == "__main__":
    unittest.main()
