"""Points 2, 8 and 91 to 96: worths of endless words, writings of fractions, and machines of fractions."""

import unittest
from fractions import Fraction
from math import gcd
from random import Random

from helpers import (
    good_by_search, odd_things, reached_loops, seen_by_search, set_of, stretched, tellings_up_to, written_out,
)
from looprank.digits import from_on, up_to, value_of, writings_of
from looprank.errors import NoFraction, NoWord
from looprank.forms import show_machine
from looprank.kinds import EarlyNo, kinds_of
from looprank.machines import Machine
from looprank.pairs import is_alike
from looprank.words import first_unlike, is_same, letter_at, shortest_telling

BASES = (2, 3)
FRACTIONS = [(top, bottom) for bottom in range(1, 7) for top in range(bottom + 1)]
ALL = [(top, bottom, base) for top, bottom in FRACTIONS for base in BASES]


def sum_of_digits(text, base):
    """What the digits of a text are worth, added up one after another."""
    total = Fraction(0)
    part = Fraction(1)
    for letter in text:
        part /= base
        total += "abc".index(letter) * part
    return total


def worth(word, base):
    """The sum of the digits: those of the beginning, and those of the round once, divided by what is left of one."""
    once = sum_of_digits(word[1], base) / (1 - Fraction(1, base ** len(word[1])))
    return sum_of_digits(word[0], base) + once / base ** len(word[0])


def short_words(base):
    return tellings_up_to(base, 3, 4) if base == 2 else tellings_up_to(base, 2, 3)


def long_words(base):
    """Tellings with beginnings and rounds of hundreds and thousands of letters, by a fixed seed."""
    draw = Random(base)
    letters = "abc"[:base]
    found = [("a" * 5000, "b"), ("b" * 5000, "a" * 2000), (letters * 1600, letters[::-1] * 600), ("", letters * 660)]
    for first, second in ((5000, 2000), (3000, 1), (1, 1999), (2000, 700), (0, 300), (4999, 7)):
        found.append(("".join(draw.choices(letters, k=first)), "".join(draw.choices(letters, k=second))))
    return found


def has_two(top, bottom, base):
    """Whether the fraction, above 0 and below 1, is a whole number divided by the base some times over."""
    return 0 < top < bottom and any([base ** times * top % bottom == 0 for times in range(1, 9)])


def rooms_up_to(rest):
    """The room that stands for what is left (94), "out" where nothing may come."""
    if rest < 0:
        return "out"
    return rest if rest < 1 else Fraction(1)


def rooms_from_on(rest):
    if rest > 1:
        return "out"
    return rest if rest > 0 else Fraction(0)


def machine_by_search(start, base, room_for):
    """Steps and ranks as points 94 and 95 tell them, over fractions."""
    rooms = [start]
    steps = []
    for room in rooms:
        row = [room if room == "out" else room_for(base * room - digit) for digit in range(base)]
        for goal in row:
            if goal not in rooms:
                rooms.append(goal)
        steps.append(row)
    return [[rooms.index(goal) for goal in row] for row in steps], [1 if room == "out" else 0 for room in rooms]


class Values(unittest.TestCase):
    """Point 91."""

    def check_value(self, word, base):
        told = value_of(word, base)
        self.assertIsInstance(told, tuple)
        self.assertEqual([part.__class__ for part in told], [int, int])
        top, bottom = told
        self.assertGreaterEqual(bottom, 1)
        self.assertTrue(0 <= top <= bottom)
        self.assertEqual(gcd(top, bottom), 1)
        self.assertEqual(Fraction(top, bottom), worth(word, base), (word[0][:40], word[1][:40], base))

    def test_against_sums(self):
        for base in BASES:
            for word in short_words(base):
                self.check_value(word, base)

    def test_long_words(self):
        for base in BASES:
            for word in long_words(base):
                self.check_value(word, base)

    def test_between_the_first_digits_and_one_digit_more(self):
        for base in BASES:
            for word in short_words(base)[::3]:
                for count in (1, 2, 5, 17):
                    least = sum_of_digits(written_out(word, count), base)
                    self.assertTrue(least <= Fraction(*value_of(word, base)) <= least + Fraction(1, base ** count))

    def test_told_values(self):
        for word, base, told in (
            (("", "a"), 2, (0, 1)), (("", "a"), 3, (0, 1)), (("", "b"), 2, (1, 1)), (("", "c"), 3, (1, 1)),
            (("", "b"), 3, (1, 2)), (("b", "a"), 2, (1, 2)), (("a", "b"), 2, (1, 2)), (("", "ab"), 2, (1, 3)),
            (("", "ba"), 2, (2, 3)), (("bb", "a"), 2, (3, 4)), (("b", "a"), 3, (1, 3)), (("a", "c"), 3, (1, 3)),
            (("", "abba"), 2, (2, 5)), (("c", "b"), 3, (5, 6)), (("aab", "ba"), 2, (5, 24)),
            (("a" * 5000, "a"), 2, (0, 1)), (("c" * 5000, "c" * 2000), 3, (1, 1)), (("a" * 64, "b"), 2, (1, 2 ** 64)),
        ):
            self.assertEqual(value_of(word, base), told, (word, base))

    def test_one_word_told_otherwise(self):
        draw = Random(91)
        for base in BASES:
            for word in short_words(base)[::2]:
                for turn in range(3):
                    self.assertEqual(value_of(stretched(word, draw), base), value_of(word, base))
                self.assertEqual(value_of(shortest_telling(word), base), value_of(word, base))
            for word in long_words(base):
                self.assertEqual(value_of((word[0] + word[1], word[1]), base), value_of(word, base))
                self.assertEqual(value_of((word[0], word[1] * 2), base), value_of(word, base))
                self.assertEqual(value_of((word[0] + word[1][0], word[1][1:] + word[1][0]), base), value_of(word, base))

    def test_a_digit_put_ahead(self):
        for base in BASES:
            for word in short_words(base)[::2] + long_words(base):
                behind = Fraction(*value_of(word, base))
                for digit in range(base):
                    ahead = value_of(("abc"[digit] + word[0], word[1]), base)
                    self.assertEqual(Fraction(*ahead), (digit + behind) / base)

    def test_of_two_words_the_lesser_is_not_worth_more(self):
        for base in BASES:
            words = short_words(base)[::5]
            for one in words:
                for other in words:
                    place = first_unlike(one, other)
                    if place is not None and letter_at(one, place) < letter_at(other, place):
                        self.assertLessEqual(Fraction(*value_of(one, base)), Fraction(*value_of(other, base)))


class Writings(unittest.TestCase):
    """Point 93."""

    def test_each_fraction(self):
        for top, bottom, base in ALL:
            with self.subTest(top=top, bottom=bottom, base=base):
                told = writings_of(top, bottom, base)
                self.assertIsInstance(told, list)
                self.assertEqual(len(told), 2 if has_two(top, bottom, base) else 1)
                for word in told:
                    self.assertIsInstance(word, tuple)
                    self.assertEqual(shortest_telling(word), word)
                    self.assertEqual(worth(word, base), Fraction(top, bottom))
                if len(told) == 2:
                    place = first_unlike(told[0], told[1])
                    self.assertGreater(letter_at(told[0], place), letter_at(told[1], place))

    def test_no_word_is_left_out(self):
        for base in BASES:
            words = [(worth(word, base), shortest_telling(word)) for word in short_words(base)]
            for top, bottom in FRACTIONS:
                told = writings_of(top, bottom, base)
                for number, word in words:
                    self.assertIs(word in told, number == Fraction(top, bottom), (top, bottom, base, word))

    def test_told_writings(self):
        for top, bottom, base, told in (
            (0, 1, 2, [("", "a")]), (0, 6, 3, [("", "a")]), (1, 1, 2, [("", "b")]), (6, 6, 3, [("", "c")]),
            (1, 2, 2, [("b", "a"), ("a", "b")]), (1, 2, 3, [("", "b")]), (1, 3, 3, [("b", "a"), ("a", "c")]),
            (3, 4, 2, [("bb", "a"), ("ba", "b")]), (1, 3, 2, [("", "ab")]), (2, 5, 2, [("", "abba")]),
            (1, 6, 2, [("a", "ab")]), (5, 6, 3, [("c", "b")]), (2, 3, 3, [("c", "a"), ("b", "c")]),
        ):
            self.assertEqual(writings_of(top, bottom, base), told, (top, bottom, base))

    def test_not_in_lowest_terms(self):
        for top, bottom, base in ALL:
            for times in range(2, 6 // bottom + 1):
                self.assertEqual(writings_of(top * times, bottom * times, base), writings_of(top, bottom, base))


class Machines(unittest.TestCase):
    """Points 94 to 96."""

    def check_rooms(self, machine, start, base, room_for):
        steps, ranks = machine_by_search(start, base, room_for)
        self.assertIsInstance(machine, Machine)
        self.assertEqual((machine.steps, machine.ranks), (steps, ranks), (start, base))
        self.assertEqual(machine.letters, base)
        self.assertLessEqual(machine.many, start.denominator + 2)

    def test_rooms_steps_and_ranks(self):
        for top, bottom, base in ALL:
            fraction = Fraction(top, bottom)
            self.check_rooms(up_to(top, bottom, base), fraction, base, rooms_up_to)
            self.check_rooms(from_on(top, bottom, base), fraction, base, rooms_from_on)

    def test_just_the_words_of_such_a_worth(self):
        for base in BASES:
            words = [(word, worth(word, base)) for word in short_words(base)]
            for top, bottom in FRACTIONS:
                below = up_to(top, bottom, base)
                above = from_on(top, bottom, base)
                for word, number in words:
                    self.assertIs(below.lets(word), number <= Fraction(top, bottom), (top, bottom, base, word))
                    self.assertIs(above.lets(word), number >= Fraction(top, bottom), (top, bottom, base, word))

    def test_both_writings_alike(self):
        """Point 8: the machine for the fractions up to a told one lets by the digits of just these."""
        for top, bottom, base in ALL:
            machines = ((up_to(top, bottom, base), True), (from_on(top, bottom, base), False))
            for other_top, other_bottom in FRACTIONS:
                one = Fraction(top, bottom)
                other = Fraction(other_top, other_bottom)
                for word in writings_of(other_top, other_bottom, base):
                    for machine, up in machines:
                        self.assertIs(machine.lets(word), other <= one if up else other >= one)

    def test_words_of_thousands_of_letters(self):
        for base in BASES:
            for word in long_words(base)[:6]:
                number = worth(word, base)
                for top, bottom in FRACTIONS[::4]:
                    self.assertIs(up_to(top, bottom, base).lets(word), number <= Fraction(top, bottom))
                    self.assertIs(from_on(top, bottom, base).lets(word), number >= Fraction(top, bottom))

    def test_early_no(self):
        for top, bottom, base in ALL:
            for machine in (up_to(top, bottom, base), from_on(top, bottom, base)):
                self.assertIsNone(EarlyNo().bar(machine))
                self.assertIn("early no", kinds_of(machine))
                for loop in reached_loops(machine):
                    if not good_by_search(machine, loop):
                        behind = set().union(*[seen_by_search(machine, room) for room in set_of(loop)])
                        self.assertEqual(set([machine.ranks[room] for room in behind]), {1})

    def test_not_in_lowest_terms(self):
        for top, bottom, base in ALL:
            for times in range(2, 6 // bottom + 1):
                for make in (up_to, from_on):
                    self.assertEqual(show_machine(make(top * times, bottom * times, base)),
                                     show_machine(make(top, bottom, base)))

    def test_nought_and_one(self):
        for base in BASES:
            row = " ".join(["0"] * base)
            out = " ".join(["1"] * base)
            for bottom in range(1, 7):
                self.assertEqual(show_machine(up_to(bottom, bottom, base)), f"0: {row}")
                self.assertEqual(show_machine(from_on(0, bottom, base)), f"0: {row}")
                self.assertEqual(show_machine(up_to(0, bottom, base)), f"0: 0 {out[2:]}; 1: {out}")
                self.assertEqual(show_machine(from_on(bottom, bottom, base)),
                                 "0: 1 0; 1: 1 1" if base == 2 else "0: 1 1 0; 1: 1 1 1")

    def test_told_machines(self):
        self.assertEqual(show_machine(up_to(1, 2, 2)), "0: 1 2; 0: 1 1; 0: 2 3; 1: 3 3")
        self.assertEqual(show_machine(from_on(1, 2, 2)), "0: 1 2; 0: 3 1; 0: 2 2; 1: 3 3")
        self.assertEqual(show_machine(up_to(1, 3, 2)), "0: 1 2; 0: 3 0; 1: 2 2; 0: 3 3")
        self.assertEqual(show_machine(up_to(1, 2, 3)), "0: 1 0 2; 0: 1 1 1; 1: 2 2 2")
        self.assertEqual(show_machine(from_on(1, 3, 3)), "0: 1 2 2; 0: 3 3 1; 0: 2 2 2; 1: 3 3 3")
        self.assertEqual(up_to(5, 6, 2).many, 5)
        self.assertEqual(up_to(1, 5, 3).many, 6)

    def test_up_to_one_and_from_another_on(self):
        for base in BASES:
            for top, bottom in FRACTIONS:
                for other_top, other_bottom in FRACTIONS:
                    same = top * other_bottom == other_top * bottom
                    self.assertIs(is_alike(up_to(top, bottom, base), up_to(other_top, other_bottom, base)), same)


class Refused(unittest.TestCase):
    """Point 92, and the refusals of the interface."""

    def check(self, error, ask, *given):
        with self.assertRaises(error) as caught:
            ask(*given)
        self.assertIs(caught.exception.__class__, error)

    def no_bases(self):
        return odd_things() + [0, 1, 4, 5, 6, -2, -3, 10, "2", "3", 2.0, 3.0, Fraction(2), 2 + 0j, (2,), [3], ""]

    def test_no_base(self):
        for thing in self.no_bases():
            with self.subTest(thing=thing):
                self.check(NoFraction, value_of, ("", "a"), thing)
                for ask in (writings_of, up_to, from_on):
                    self.check(NoFraction, ask, 1, 2, thing)

    def test_no_base_ahead_of_no_word(self):
        for thing in self.no_bases():
            self.check(NoFraction, value_of, ("", ""), thing)
            self.check(NoFraction, value_of, None, thing)

    def test_no_bottom(self):
        for thing in odd_things() + [0, 7, 8, -6, "1", "6", 1.0, 2.0, Fraction(2), [1], (1,), ""]:
            for ask in (writings_of, up_to, from_on):
                for top in (0, 1, thing):
                    with self.subTest(thing=thing):
                        self.check(NoFraction, ask, top, thing, 2)

    def test_no_top(self):
        for thing in odd_things() + [7, 8, -6, "0", "1", 0.0, 1.0, Fraction(1), [0], (1,), ""]:
            for ask in (writings_of, up_to, from_on):
                for base in BASES:
                    with self.subTest(thing=thing):
                        self.check(NoFraction, ask, thing, 6, base)

    def test_a_top_above_the_bottom(self):
        for bottom in range(1, 7):
            for ask in (writings_of, up_to, from_on):
                self.check(NoFraction, ask, bottom + 1, bottom, 2)
                self.check(NoFraction, ask, -1, bottom, 3)

    def test_truths_are_no_numbers(self):
        for ask in (writings_of, up_to, from_on):
            for given in ((True, 2, 2), (False, 2, 2), (1, True, 2), (0, True, 3), (1, 2, True), (1, 1, False)):
                self.check(NoFraction, ask, *given)

    def test_no_word(self):
        things = odd_things() + [
            "a", "(a)", "", 0, 1, ("a", ""), ("", ""), ("a", "b", "a"), ["", "a"], ("d", "a"), ("a", "d"), ("A", "a"),
            ("a", None), (None, "a"), ("", ["a"]), ("a ", "a"), ("", 1), ("0", "1"), ("", "01"),
        ]
        for thing in things:
            for base in BASES:
                with self.subTest(thing=thing):
                    self.check(NoWord, value_of, thing, base)

    def test_other_letters_than_the_bases(self):
        for word in (("", "c"), ("c", "a"), ("ab", "abc")):
            self.check(NoWord, value_of, word, 2)
            self.assertEqual(Fraction(*value_of(word, 3)), worth(word, 3))


class Own(unittest.TestCase):
    """Point 2."""

    def test_lists_given_back_may_be_changed(self):
        for top, bottom, base in ALL:
            writings = writings_of(top, bottom, base)
            kept = list(writings)
            writings.clear()
            self.assertEqual(writings_of(top, bottom, base), kept)
            for make in (up_to, from_on):
                machine = make(top, bottom, base)
                text = show_machine(machine)
                machine.steps[0][0] = 7
                machine.steps.append([])
                machine.ranks.clear()
                self.assertEqual(show_machine(make(top, bottom, base)), text)

    def test_no_two_rows_are_one_list(self):
        for make in (up_to, from_on):
            machine = make(1, 2, 2)
            machine.steps[1][0] = 0
            self.assertEqual(machine.steps[2:], make(1, 2, 2).steps[2:])

    def test_writings_are_told_by_one_telling(self):
        for top, bottom, base in ALL:
            for word in writings_of(top, bottom, base):
                self.assertTrue(is_same(word, shortest_telling(word)))
                lowest = Fraction(top, bottom)
                self.assertEqual(value_of(word, base), (lowest.numerator, lowest.denominator))


if __name__ == "__main__":
    unittest.main()
