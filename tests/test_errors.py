"""Point 2 and the interface of looprank/errors.py: the refusals and how they stand to one another."""

import unittest

from looprank import errors

MADE_WITH_A_TEXT = [
    "NoWord", "NoMachine", "NoRoom", "NoText", "NoLoop", "NoKind", "NoPaper", "OtherLetters", "NoFraction",
    "NoLine", "NoName", "NoEnd",
]
ALL = MADE_WITH_A_TEXT + ["NotSettled"]


class Errors(unittest.TestCase):
    def test_rank_error_stands_under_value_error(self):
        self.assertEqual(errors.RankError.__bases__, (ValueError,))

    def test_there_are_thirteen_refusals(self):
        told = [name for name, thing in vars(errors).items()
                if isinstance(thing, type) and name != "RankError"]
        self.assertEqual(sorted(told), sorted(ALL))
        self.assertEqual(len(ALL), 13)

    def test_each_stands_straight_under_rank_error_alone(self):
        for name in ALL:
            with self.subTest(name=name):
                self.assertEqual(getattr(errors, name).__bases__, (errors.RankError,))

    def test_none_stands_under_another(self):
        for name in ALL:
            for other in ALL:
                if name != other:
                    self.assertFalse(issubclass(getattr(errors, name), getattr(errors, other)), (name, other))

    def test_each_is_made_with_a_text_and_raised_by_its_name(self):
        for name in MADE_WITH_A_TEXT:
            kind = getattr(errors, name)
            with self.subTest(name=name):
                with self.assertRaises(kind):
                    raise kind("some words")
                with self.assertRaises(errors.RankError):
                    raise kind("some words")
                with self.assertRaises(ValueError):
                    raise kind("")

    def test_not_settled_keeps_its_three_words(self):
        with self.assertRaises(errors.NotSettled) as caught:
            raise errors.NotSettled("ab", "a", "abb")
        self.assertEqual(caught.exception.front, "ab")
        self.assertEqual(caught.exception.one, "a")
        self.assertEqual(caught.exception.other, "abb")

    def test_not_settled_is_made_by_the_names_of_its_fields(self):
        error = errors.NotSettled(front="", one="c", other="cc")
        self.assertEqual((error.front, error.one, error.other), ("", "c", "cc"))
        self.assertIsInstance(error, errors.RankError)


if __name__ == "__main__":
    unittest.main()
