import unittest

from playboard import errors

REFUSALS = ["BadBoard", "BadGame", "BadLine", "BadPlace", "NoMove", "TooWide", "NoWord", "Over", "NothingBack"]


class TestErrors(unittest.TestCase):
    def test_play_error_is_straight_under_value_error(self):
        self.assertEqual(errors.PlayError.__bases__, (ValueError,))

    def test_each_refusal_is_straight_under_play_error(self):
        for name in REFUSALS:
            with self.subTest(name=name):
                self.assertEqual(getattr(errors, name).__bases__, (errors.PlayError,))

    def test_the_refusals_are_different_classes_under_their_names(self):
        classes = [getattr(errors, name) for name in REFUSALS]
        self.assertEqual(len(set(classes)), len(REFUSALS))
        self.assertEqual([found.__name__ for found in classes], REFUSALS)

    def test_none_is_taken_for_another_one(self):
        for name in REFUSALS:
            for other in REFUSALS:
                with self.subTest(name=name, other=other):
                    same = issubclass(getattr(errors, name), getattr(errors, other))
                    self.assertEqual(same, name == other)

    def test_each_is_raised_and_taken_as_play_error_and_value_error(self):
        for name in REFUSALS:
            for taken in (getattr(errors, name), errors.PlayError, ValueError):
                with self.subTest(name=name, taken=taken):
                    with self.assertRaises(taken):
                        raise getattr(errors, name)(0)

    def test_bad_line_has_its_place(self):
        for at in (0, 1, 7, 1000):
            with self.subTest(at=at):
                with self.assertRaises(errors.BadLine) as caught:
                    raise errors.BadLine(at)
                self.assertEqual(caught.exception.at, at)

    def test_two_bad_lines_keep_their_own_places(self):
        one, other = errors.BadLine(1), errors.BadLine(2)
        self.assertEqual((one.at, other.at), (1, 2))


if __name__ == "__main__":
    unittest.main()
