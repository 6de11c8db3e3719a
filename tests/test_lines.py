"""Points 2, 101 and 106: lines that are refused, by which class, and that they change nothing."""

import unittest

from helpers import odd_things
from looprank.desk import Desk
from looprank.errors import (
    NoFraction, NoLine, NoMachine, NoName, NoText, NoWord, NotSettled, OtherLetters, RankError,
)
from looprank.machines import Machine

# Kept by the desk that is asked: "one" has one letter, "two" has two and is not settled, "three" has three letters.
KEPT = {
    "one": "0: 1; 1: 1", "two": "1: 0 1; 2: 0 1", "three": "0: 0 1 1; 1: 1 1 1", "abcdefgh": "7: 0 0",
    "x": "4: 0 0",
}
NO_NAMES = [
    "", "One", "abcdefghi", "a1", "1", "a_b", "-", "a-b", "a.", "zz,", "(a)", "\u00e9", "stra\u00dfe", "\u0430", "a\n",
    "\n", "a\t", "\ta", "A", "ONE", "0", "one;",
]
NO_WORDS = ["", "a", "()", "(a", "a)", "a()", "(a)(b)", "(a)b", "((a))", "(d)", "d(a)", "(A)", "a,(b)", "(a)\n", "-",
            "none", "(a))", "[a]"]
NO_NUMBERS = ["", "-1", "+1", "01", "00", "1.0", "x", "two", "1_0", "\u0662", "1" * 31, "0x1", "1,", "1e1", "1\n"]
# Lines that would be answered, with the sort of each word behind the first.
GOOD = [
    ("keep new 0: 0 1; 1: 1 1", ("name",)), ("fraction new up 1 2 2", ("name", "way", "number", "number", "number")),
    ("fraction new from 1 2 2", ("name", "way", "number", "number", "number")), ("opposite new two", ("name", "old")),
    ("trim new two", ("name", "old")), ("lowest new two", ("name", "old")), ("small new one", ("name", "old")),
    ("show two", ("old",)), ("lets two b(a)", ("old", "word")), ("walk two b(a)", ("old", "word")),
    ("kinds two", ("old",)), ("why two again", ("old", "kind")), ("part two x", ("old", "old")),
    ("within two x", ("old", "old")), ("some both two x", ("joint", "old", "old")), ("telling c(a)", ("word",)),
    ("same c(a) (b)", ("word", "word")), ("value c(a) 3", ("word", "number")), ("names", ()),
]


def some_desk():
    desk = Desk()
    for name, text in KEPT.items():
        desk.say(f"keep {name} {text}")
    return desk


class Refusals(unittest.TestCase):
    def setUp(self):
        self.desk = some_desk()

    def check(self, error, line):
        with self.subTest(line=line):
            with self.assertRaises(error) as caught:
                self.desk.say(line)
            self.assertIs(caught.exception.__class__, error)
            self.assertIsInstance(caught.exception, RankError)
            self.assertEqual(self.desk.say("names"), "abcdefgh one three two x")
            for name, text in KEPT.items():
                self.assertEqual(self.desk.say(f"show {name}"), text)

    def check_words(self, error, sort, words):
        """Each of these words in the place of each word of the sort."""
        for line, sorts in GOOD:
            parts = line.split(" ")
            for place, other in enumerate(sorts):
                if other == sort:
                    for word in words:
                        self.check(error, " ".join(parts[:place + 1] + [word] + parts[place + 2:]))


class NoLines(Refusals):
    def test_the_good_lines_are_answered(self):
        for line, sorts in GOOD:
            self.assertIsInstance(some_desk().say(line), str)

    def test_what_is_no_text(self):
        for thing in odd_things() + [0, 1, ["names"], ("names",), b"names", {"names": 1}, Machine([[0]], [0])]:
            self.check(NoLine, thing)

    def test_first_words(self):
        for line in (
            "", " ", "  ", "hello", "Names", "NAMES", "name", "namess", "names.", "keeps x 0: 0", "Keep x 0: 0",
            " names", " show two", "\tnames", "names\n", "show\ttwo", "learn two", "marked two", "early no two", "up",
            "two", "show,two", "-", "none", "both two x", "ladders two x", "show;", "KEEP new 0: 0",
        ):
            self.check(NoLine, line)

    def test_counts_of_words(self):
        for line, sorts in GOOD:
            parts = line.split(" ")
            if parts[0] not in ("keep", "why"):
                for count in range(1, len(parts)):
                    self.check(NoLine, " ".join(parts[:count]))
                for more in ("", "two", "x", "(a)", "1", "yes"):
                    self.check(NoLine, line + " " + more)
                    self.check(NoLine, line + "  " + more)
        for line in ("keep", "keep new", "keep two", "why", "why two", "why one", "why nobody"):
            self.check(NoLine, line)

    def test_blanks_at_an_end_and_two_in_a_row(self):
        for line, sorts in GOOD:
            self.check(NoLine, " " + line)
            if not line.startswith("keep"):
                self.check(NoLine, line + " ")
            if " " in line:
                self.check(NoLine, line.replace(" ", "  ", 1))
        for line in ("lets two  b(a)", "some both  two x", "some both two  x", "value  (a) 2", "value (a)  2",
                     "same (a)  (b)", "fraction new up 1  2 2", "fraction  new up 1 2 2", "keep  new 0: 0",
                     "why two  again", "why two early  no", "why two early no ", "why  two again", "names  "):
            self.check(NoLine, line)

    def test_no_names(self):
        for sort in ("name", "old"):
            self.check_words(NoLine, sort, NO_NAMES)

    def test_no_ways(self):
        self.check_words(NoLine, "way", ["", "Up", "UP", "to", "down", "upto", "from_on", "From", "1", "two"])

    def test_no_joints(self):
        self.check_words(NoLine, "joint", ["", "Both", "and", "or", "not", "neither", "two", "joint", "xor", "bothh"])

    def test_no_kinds(self):
        for kind in ("early", "no", "early yes no", "Early no", "early_no", "earlyno", "late", "settled again", "yes",
                     "early no early no", "", " ", "kind", "again.", "againn", "two", "early  no", " again", "again "):
            self.check(NoLine, f"why two {kind}")
            self.check(NoLine, f"why nobody {kind}")


class NoNames(Refusals):
    def test_names_that_are_not_kept(self):
        self.check_words(NoName, "old", ["nobody", "tw", "twoo", "a", "abcdefg", "zzzzzzzz", "names", "none"])

    def test_a_desk_that_keeps_nothing(self):
        for line, sorts in GOOD:
            desk = Desk()
            if "old" in sorts:
                with self.assertRaises(NoName):
                    desk.say(line)
                self.assertEqual(desk.say("names"), "none")
            else:
                self.assertIsInstance(desk.say(line), str)

    def test_the_name_that_the_line_itself_is_to_keep(self):
        for word in ("opposite", "trim", "lowest", "small"):
            self.check(NoName, f"{word} new new")


class NoTexts(Refusals):
    def test_machines_that_are_not_written_so(self):
        for text in ("", " ", "0", "0:", "0:0", "0: ", "0 : 0", " 0: 0", "0: 0 ", "0:  0", "0: 0  0", "0: 0;1: 0",
                     "0: 0; ", "0: 0; 1", "0: 0; 1:1", "00: 0", "0: 00", "01: 0", "-1: 0", "x: 0", "0: x",
                     "1" * 31 + ": 0", "0: " + "1" * 31, "0: 0;  1: 0", "\u0661: 0", "0: 0\n", "one", "two",
                     "keep new 0: 0", "keep", "0: 0. 0", "0: 0, 0"):
            self.check(NoText, f"keep new {text}")
            self.check(NoText, f"keep two {text}")

    def test_no_numbers(self):
        self.check_words(NoText, "number", [number for number in NO_NUMBERS if number != ""])
        self.check(NoText, "value (a) ")
        self.check(NoText, "fraction new up 1 2 ")
        self.check(NoText, "fraction new up  2 2")


class Later(Refusals):
    """What the other stages refuse."""

    def test_no_machines(self):
        for text in ("0: 1", "0: 0 0; 1: 0", "0: 0 0 0 0", "0: 0; 1: 2", "; ".join(["0: 0"] * 9), "0: 8",
                     f"{10 ** 29}: {10 ** 29}"):
            self.check(NoMachine, f"keep new {text}")
            self.check(NoMachine, f"keep two {text}")

    def test_no_words(self):
        self.check_words(NoWord, "word", NO_WORDS)

    def test_letters_of_the_machine(self):
        for name, word in (("one", "(b)"), ("one", "b(a)"), ("two", "(c)"), ("two", "c(a)"), ("two", "ab(abc)"),
                           ("three", "(d)")):
            self.check(NoWord, f"lets {name} {word}")
            self.check(NoWord, f"walk {name} {word}")
        for line in ("lets one (a)", "lets two b(a)", "lets three c(a)", "telling (c)", "same (c) (b)", "value (c) 3"):
            self.assertIsInstance(self.desk.say(line), str)

    def test_letters_of_the_base(self):
        for word in ("(c)", "c(a)", "ab(abc)"):
            self.check(NoWord, f"value {word} 2")

    def test_no_fractions(self):
        for numbers in ("2 1 2", "1 0 2", "0 0 2", "1 7 2", "7 6 3", "1 2 4", "1 2 0", "1 2 1", "0 1 10",
                        f"{10 ** 29} 2 2", f"1 {10 ** 29} 2", f"1 2 {10 ** 29}"):
            self.check(NoFraction, f"fraction new up {numbers}")
            self.check(NoFraction, f"fraction two from {numbers}")
        for base in (0, 1, 4, 10, 10 ** 29):
            self.check(NoFraction, f"value (a) {base}")

    def test_not_settled(self):
        for line in ("small new two", "small two two", "small one two"):
            with self.assertRaises(NotSettled) as caught:
                self.desk.say(line)
            machine = Machine([[0, 1], [0, 1]], [1, 2])
            start = machine.after(0, caught.exception.front)
            for text in (caught.exception.one, caught.exception.other):
                self.assertEqual(machine.after(start, text), start)
            self.assertIsNot(machine.lets(("", caught.exception.one), start),
                             machine.lets(("", caught.exception.other), start))
            self.check(NotSettled, line)

    def test_other_letters(self):
        for word in ("part", "within", "some both", "some either", "some less", "some unlike", "some nor"):
            for names in ("one two", "two one", "one three", "three x", "two three"):
                self.check(OtherLetters, f"{word} {names}")


class TwoFaults(Refusals):
    """The fault that is told first is the one that is raised."""

    def test_no_line_first(self):
        for line in (
            "opposite New nobody", "opposite new Nobody", "show Nobody", "lets nobody", "lets nobody x y", "lets Two x",
            "part nobody Two", "part Nobody two", "part nobody", "some both nobody Two", "some all nobody two",
            "why nobody late", "why nobody", "keep New 0", "keep New 0: 9", "keep  0", "fraction new to x 2 2",
            "fraction New up x 2 2", "fraction new up x 2", "fraction new up 9 2 2 2", "value (d)", "value (d) x 2",
            "same (d)", "same (d) (a) (b)", "telling (d) ", "names nobody", "small New two", "small new two ",
            "within one Two", "walk nobody  (d)",
        ):
            self.check(NoLine, line)

    def test_in_the_order_of_the_line(self):
        for error, line in (
            (NoName, "lets nobody (d)"), (NoName, "walk nobody x"), (NoName, "part nobody nobodye"),
            (NoName, "part two nobody"), (NoName, "part nobody two"), (NoName, "some nor one nobody"),
            (NoName, "why nobody again"), (NoName, "small two nobody"), (NoName, "lets nobody "),
            (NoWord, "value (d) x"), (NoWord, "value (d) 5"), (NoWord, "value () x"),
            (NoText, "value (a) x"), (NoText, "value (c) 02"), (NoFraction, "value (c) 5"), (NoFraction, "value (c) 1"),
            (NoWord, "value (c) 2"), (NoText, "fraction new up 9 9 x"), (NoText, "fraction new up 9 09 2"),
            (NoText, "fraction new up x 7 4"), (NoFraction, "fraction new up 9 9 9"),
            (NoWord, "same (d) (a)"), (NoWord, "same (a) (d)"), (NoWord, "same d e"),
            (NoText, "keep new 0: 9; x: 0"), (NoText, "keep new 0: 9; 0:0"), (NoMachine, "keep new 0: 9; 0: 0"),
            (NoText, "keep new 0: 0 0; 1: 01"), (NoText, "keep nobody nobody"),
        ):
            self.check(error, line)

    def test_what_stands_behind_keep_is_asked_for_nothing_but_a_machine(self):
        for line in ("keep new new 0: 0", "keep new keep one 0: 0", "keep new 0: 0 ", "keep new  0: 0", "keep new ",
                     "keep new  ", "keep new New", "keep new Nobody nobody 1"):
            self.check(NoText, line)

    def test_refused_lines_among_others(self):
        desk = Desk()
        for line in ("keep one 0: 1", "show one", "keep one x", "opposite one one", "fraction one up 7 6 2"):
            self.assertRaises(RankError, desk.say, line)
            self.assertEqual(desk.say("names"), "none")
        self.assertEqual(desk.say("keep one 1: 0"), "ok")
        self.assertRaises(NoMachine, desk.say, "keep one 1: 1")
        self.assertRaises(NoName, desk.say, "opposite one two")
        self.assertEqual(desk.say("show one"), "1: 0")


if __name__ == "__main__":
    unittest.main()
