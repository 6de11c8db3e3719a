"""Points 26 and 27: machines written as texts, and read from them."""

import re
import unittest
from itertools import product

from helpers import drawn_machines, nested_machine, odd_things, small_machines, split_machine
from looprank.errors import NoMachine, NoText, RankError
from looprank.forms import read_machine, show_machine
from looprank.machines import Machine

LONG = 10 ** 30 - 1
NUMBER = "(0|[1-9][0-9]{0,29})"
ROOM = f"{NUMBER}: {NUMBER}( {NUMBER})*"
FORM = re.compile(f"{ROOM}(; {ROOM})*")

NO_TEXTS = {
    "empty": [""],
    "nought ahead": [
        "00: 0", "01: 0", "0: 00", "0: 01", "0: 0 00", "1: 0 1; 02: 1 0", "1: 0 1; 2: 01 0", "1: 0 1; 2: 1 00",
        "000000000000000000000000000000: 0",
    ],
    "a sign amid the figures": [
        "1x: 0", "x1: 0", "1x1: 0", "x: 0", "-1: 0", "+1: 0", "1_0: 0", "1.0: 0", "0: -0", "0: +0", "0: x", "0: 0x",
        "0: 0 a", "1e1: 0", "0x1: 0", "0: 0.", "1,0: 0", "(1): 0", "1: 0 1; 2: 1 ~", "1: 0 1; -2: 1 0",
    ],
    "thirty-one figures": [
        "1" * 31 + ": 0", "0: " + "1" * 31, "0: 0 " + "9" * 31, f"0: 0 1; {10 ** 30}: 1 1", "1" * 400 + ": 0",
        "1" * 3997 + ": 0", "0: " + "1" * 3997,
    ],
    "no figures": [": 0", "0: ", ": ", "0:  ", "1: 0 1; : 1 0", "1: 0 1; 2: ", "0: 0; : "],
    "a blank too many": [
        " 0: 0", "0 : 0", "0:  0", "0: 0 ", "0: 0  0", "0: 0 0 ", "1: 0 1;  2: 1 0", "1: 0 1 ; 2: 1 0",
        "1: 0 1; 2:  1 0", "1: 0 1; 2 : 1 0", "1: 0 1; 2: 1 0 ", " ", "  ",
    ],
    "a blank too few": ["0:0", "1: 0 1;2: 1 0", "1:0 1; 2: 1 0", "1: 0 1; 2:1 0", "1:0 1;2:1 0"],
    "a colon or a semicolon without its blank": [
        ":", ";", "0:", "0: 0;", "0;", "1: 0 1; 2:", "1: 0 1; 2", "1: 0 1; ;", "0: 0:", "0: 0: 0", "0: 0 0:", "0;: 0",
        "0:: 0", "0: : 0", "0: 0;; 0: 0",
    ],
    "no colon": ["0", "0 0", "1: 0 1; 2 1 0", "1 0 1; 2: 1 0", "00"],
    "an empty end": ["0: 0; ", "; 0: 0", "; ", "; ; ", "1: 0 1; 2: 1 0; ", "1: 0 1; ; 2: 1 0"],
    "other signs between": [
        "0: 0\n", "\n0: 0", "0:\t0", "0: 0\t0", "0: 0;\n0: 0", "0, 0", "[[0], [0]]", "0: 0, 0", "0= 0", "0: 0 | 0: 0",
    ],
}

NO_MACHINES = {
    "no room": ["0: 1", "0: 0 1", "0: 0 9", "1: 0 1; 2: 1 2", "1: 2 1; 2: 1 0", "0: " + "9" * 30, f"0: 0 {LONG}"],
    "rows of unlike length": ["1: 0 1; 2: 1", "1: 0; 2: 1 0", "0: 0; 0: 0; 0: 0 0 0"],
    "too many letters": ["0: 0 0 0 0", "0: 0 0 0 0; 0: 0 0 0 0", "0: 0" + " 0" * 1998],
    "too many rooms": ["; ".join(["0: 0"] * 9), "; ".join(["1: 0 1 2"] * 9), "; ".join(["0: 0"] * 600)],
}


class Shown(unittest.TestCase):
    """Point 26."""

    def test_the_machine_of_the_point(self):
        self.assertEqual(show_machine(Machine([[0, 1], [1, 0]], [1, 2])), "1: 0 1; 2: 1 0")

    def test_one_room(self):
        self.assertEqual(show_machine(Machine([[0]], [0])), "0: 0")
        self.assertEqual(show_machine(Machine([[0, 0]], [7])), "7: 0 0")
        self.assertEqual(show_machine(Machine([[0, 0, 0]], [10])), "10: 0 0 0")

    def test_eight_rooms(self):
        self.assertEqual(
            show_machine(nested_machine([0, 10, 20, 30, 4, 5, 6, 7])),
            "0: 1 0 0; 10: 2 0 1; 20: 3 0 2; 30: 4 0 3; 4: 5 0 4; 5: 6 0 5; 6: 7 0 6; 7: 0 0 7")
        self.assertEqual(
            show_machine(split_machine()), "5: 1 4; 1: 2 2; 2: 1 1; 3: 3 3; 9: 3 1; 4: 6 0; 8: 7 3; 7: 6 6")

    def test_long_ranks(self):
        self.assertEqual(show_machine(Machine([[0], [0]], [LONG, LONG - 1])), "9" * 30 + ": 0; " + "9" * 29 + "8: 0")

    def test_a_told_rank_of_thirty_one_figures(self):
        self.assertEqual(show_machine(Machine([[0]], [LONG]).opposite()), "1" + "0" * 30 + ": 0")

    def test_the_machine_is_not_changed(self):
        machine = split_machine()
        steps = [list(row) for row in machine.steps]
        ranks = list(machine.ranks)
        show_machine(machine)
        self.assertEqual((machine.steps, machine.ranks), (steps, ranks))


class Read(unittest.TestCase):
    """Point 27."""

    def test_the_machine_of_point_26(self):
        machine = read_machine("1: 0 1; 2: 1 0")
        self.assertIsInstance(machine, Machine)
        self.assertEqual((machine.steps, machine.ranks), ([[0, 1], [1, 0]], [1, 2]))
        self.assertEqual((machine.many, machine.letters), (2, 2))

    def test_one_and_eight_rooms(self):
        machine = read_machine("0: 0")
        self.assertEqual((machine.steps, machine.ranks), ([[0]], [0]))
        machine = read_machine("; ".join(["12: 7 0 3"] * 8))
        self.assertEqual((machine.steps, machine.ranks), ([[7, 0, 3]] * 8, [12] * 8))

    def test_thirty_figures(self):
        machine = read_machine(f"{LONG}: 0; {10 ** 29}: 1")
        self.assertEqual((machine.steps, machine.ranks), ([[0], [1]], [LONG, 10 ** 29]))

    def test_what_is_written_is_read_as_the_same_machine(self):
        machines = small_machines() + drawn_machines(26, 120)
        machines += [Machine(machine.steps, [rank * 10 ** 28 for rank in machine.ranks]) for machine in machines[-40:]]
        self.assertEqual(set([machine.letters for machine in machines]), {1, 2, 3})
        self.assertEqual(set([machine.many for machine in machines]), set(range(1, 9)))
        for machine in machines:
            again = read_machine(show_machine(machine))
            self.assertEqual((again.steps, again.ranks), (machine.steps, machine.ranks))

    def test_texts_that_are_no_machines(self):
        for fault, texts in NO_TEXTS.items():
            for text in texts:
                with self.subTest(fault=fault, text=text[:60]):
                    with self.assertRaises(NoText):
                        read_machine(text)

    def test_numbers_that_make_no_machine(self):
        for fault, texts in NO_MACHINES.items():
            for text in texts:
                with self.subTest(fault=fault, text=text[:60]):
                    with self.assertRaises(NoMachine):
                        read_machine(text)

    def test_no_text_comes_ahead_of_no_machine(self):
        for fault, texts in NO_MACHINES.items():
            for text in texts:
                for ending in ("; 01: 0", "; 0:0", "; ", "; 0: x", " ", " 00", f" {10 ** 30}", ";"):
                    with self.subTest(fault=fault, text=text[:60], ending=ending):
                        with self.assertRaises(NoText):
                            read_machine(text + ending)
                        with self.assertRaises(NoText):
                            read_machine("01: 0; " + text)

    def test_things_that_are_no_text(self):
        for thing in odd_things() + [0, 1, [[0]], ["0: 0"], ("0: 0",), b"0: 0", {"0: 0": "0: 0"}, Machine([[0]], [0])]:
            with self.subTest(thing=repr(thing)):
                with self.assertRaises(NoText):
                    read_machine(thing)

    def test_all_short_texts(self):
        """Just what is of the form is read, and then just what makes a machine."""
        for size in range(8):
            for signs in product("01:; ", repeat=size):
                text = "".join(signs)
                if FORM.fullmatch(text) is None:
                    self.assertRaises(NoText, read_machine, text)
                    continue
                rows = [piece.split(": ")[1].split(" ") for piece in text.split("; ")]
                if all([int(room) < len(rows) for row in rows for room in row]) and len(rows[0]) < 4:
                    self.assertEqual(show_machine(read_machine(text)), text)
                else:
                    self.assertRaises(NoMachine, read_machine, text)

    def test_one_sign_changed_in_a_text(self):
        text = "1: 0 1; 20: 1 0"
        for place in range(len(text) + 1):
            for sign in [""] + list("0129:; a-"):
                for changed in (text[:place] + sign + text[place:], text[:place] + sign + text[place + 1:]):
                    if FORM.fullmatch(changed) is None:
                        self.assertRaises(NoText, read_machine, changed)
                    else:
                        try:
                            self.assertEqual(show_machine(read_machine(changed)), changed)
                        except RankError as error:
                            self.assertIsInstance(error, NoMachine)

    def test_machines_read_from_one_text_share_no_list(self):
        text = "1: 0 1; 2: 1 0"
        first = read_machine(text)
        second = read_machine(text)
        first.steps[0][0] = 1
        first.ranks.append(5)
        self.assertEqual((second.steps, second.ranks), ([[0, 1], [1, 0]], [1, 2]))
        self.assertEqual(read_machine(text).steps, [[0, 1], [1, 0]])

    def test_the_same_text_is_answered_alike_behind_a_refusal(self):
        for text in ("", "0: 1"):
            for again in range(2):
                self.assertRaises(RankError, read_machine, text)
        self.assertEqual(show_machine(read_machine("0: 0")), "0: 0")


if __name__ == "__main__":
    unittest.main()
