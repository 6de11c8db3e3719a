"""Points 2 and 101 to 105: lines, and what a desk answers."""

import unittest
from itertools import product
from random import Random

from helpers import (
    drawn_machines, layered_machines, nested_machine, split_machine, stretched, tellings_up_to, turning_machines,
)
from looprank.desk import Desk
from looprank.digits import from_on, up_to, value_of
from looprank.errors import NotSettled
from looprank.forms import read_machine, show_machine
from looprank.joints import Both, Either, Less, Nor, Unlike
from looprank.kinds import Again, EarlyNo, EarlyYes, Lasting, Settled, kinds_of
from looprank.lowest import lowered
from looprank.machines import Machine
from looprank.pairs import is_within, parting_word
from looprank.reach import trimmed
from looprank.smallest import smallest_form
from looprank.words import first_unlike, shortest_telling, show_endless

KINDS = {"early no": EarlyNo, "early yes": EarlyYes, "settled": Settled, "again": Again, "lasting": Lasting}
JOINTS = {"both": Both, "either": Either, "less": Less, "unlike": Unlike, "nor": Nor}
LONG_ODD = 10 ** 30 - 1
LONG_EVEN = 10 ** 30 - 2


def edges():
    """One and eight rooms, ranks of thirty figures, rooms off the loops and out of reach."""
    return [
        Machine([[0]], [0]), Machine([[0]], [1]), Machine([[0, 0, 0]], [LONG_ODD]), Machine([[0, 0]], [LONG_EVEN]),
        split_machine(), split_machine().opposite(), nested_machine(list(range(8))), nested_machine([1, 2]),
        nested_machine([2, 3], 2), nested_machine([LONG_ODD, LONG_EVEN, LONG_ODD]), nested_machine([4] * 8, 1),
        Machine([[0, 1], [1, 2], [2, 2]], [0, 1, 2]), Machine([[1, 1], [1, 1], [2, 2]], [4, 3, 0]),
    ]


def machines():
    return edges() + drawn_machines(101, 40) + layered_machines(102, 40) + turning_machines(103, 36)


def desk_with(**kept):
    desk = Desk()
    for name, machine in kept.items():
        desk.say(f"keep {name} {show_machine(machine)}")
    return desk


def or_dash(text):
    return text if text else "-"


def or_none(word):
    return "none" if word is None else show_endless(word)


class Lines(unittest.TestCase):
    def check(self, desk, line, told):
        answer = desk.say(line)
        self.assertIs(answer.__class__, str)
        self.assertEqual(answer, told, line)


class Making(Lines):
    """Point 102."""

    def test_keep(self):
        for machine in machines():
            desk = Desk()
            self.check(desk, f"keep one {show_machine(machine)}", "ok")
            self.check(desk, "show one", show_machine(machine))

    def test_made_of_another_one(self):
        met = set()
        for machine in machines():
            desk = desk_with(one=machine)
            self.check(desk, "opposite two one", "ok")
            self.check(desk, "trim three one", "ok")
            self.check(desk, "lowest four one", "ok")
            self.check(desk, "show two", show_machine(machine.opposite()))
            self.check(desk, "show three", show_machine(trimmed(machine)))
            self.check(desk, "show four", show_machine(lowered(machine)))
            self.check(desk, "show one", show_machine(machine))
            settled = Settled().bar(machine) is None
            met.add(settled)
            if settled:
                self.check(desk, "small five one", "ok")
                self.check(desk, "show five", show_machine(smallest_form(machine)))
            else:
                self.assertRaises(NotSettled, desk.say, "small five one")
            self.check(desk, "names", "five four one three two" if settled else "four one three two")
        self.assertEqual(met, {True, False})

    def test_fractions(self):
        for bottom, base in product(range(1, 7), (2, 3)):
            for top in range(bottom + 1):
                desk = Desk()
                self.check(desk, f"fraction below up {top} {bottom} {base}", "ok")
                self.check(desk, f"fraction above from {top} {bottom} {base}", "ok")
                self.check(desk, "show below", show_machine(up_to(top, bottom, base)))
                self.check(desk, "show above", show_machine(from_on(top, bottom, base)))

    def test_nought_and_one(self):
        desk = Desk()
        for line, text in (
            ("fraction f up 0 1 2", "0: 0 1; 1: 1 1"), ("fraction f from 0 1 2", "0: 0 0"),
            ("fraction f up 1 1 3", "0: 0 0 0"), ("fraction f from 6 6 3", "0: 1 1 0; 1: 1 1 1"),
        ):
            self.check(desk, line, "ok")
            self.check(desk, "show f", text)

    def test_a_name_that_is_kept_anew(self):
        desk = desk_with(one=nested_machine([1, 2]), two=split_machine())
        for line, machine in (
            ("keep one 0: 0", Machine([[0]], [0])), ("opposite one two", split_machine().opposite()),
            ("fraction one up 1 2 2", up_to(1, 2, 2)), ("trim one two", trimmed(split_machine())),
            ("lowest one two", lowered(split_machine())), ("small one two", smallest_form(split_machine())),
            ("keep one 1: 0 0 0", Machine([[0, 0, 0]], [1])),
        ):
            self.check(desk, line, "ok")
            self.check(desk, "show one", show_machine(machine))
            self.check(desk, "show two", show_machine(split_machine()))
            self.check(desk, "names", "one two")

    def test_kept_in_the_place_of_the_machine_that_is_read(self):
        for machine in machines():
            desk = desk_with(one=machine)
            kept = machine
            for line, make in (("opposite one one", lambda kept: kept.opposite()), ("trim one one", trimmed),
                               ("lowest one one", lowered)):
                self.check(desk, line, "ok")
                kept = make(kept)
                self.check(desk, "show one", show_machine(kept))
            if Settled().bar(kept) is None:
                self.check(desk, "small one one", "ok")
                self.check(desk, "show one", show_machine(smallest_form(kept)))
            else:
                self.assertRaises(NotSettled, desk.say, "small one one")
                self.check(desk, "show one", show_machine(kept))
            self.check(desk, "names", "one")

    def test_what_was_made_of_a_machine_stays_when_it_is_kept_anew(self):
        desk = desk_with(one=split_machine())
        self.check(desk, "opposite two one", "ok")
        self.check(desk, "keep one 0: 0", "ok")
        self.check(desk, "show two", show_machine(split_machine().opposite()))

    def test_ranks_of_thirty_figures(self):
        desk = Desk()
        text = f"{LONG_ODD}: 0 1; {LONG_EVEN}: 1 0"
        self.check(desk, f"keep long {text}", "ok")
        self.check(desk, "show long", text)
        self.check(desk, "opposite more long", "ok")
        self.check(desk, "show more", f"{10 ** 30}: 0 1; {LONG_ODD}: 1 0")
        self.check(desk, "lowest low long", "ok")
        self.check(desk, "show low", show_machine(lowered(read_machine(text))))

    def test_names_of_one_and_of_eight_letters(self):
        desk = Desk()
        for name in ("a", "z", "abcdefgh", "zzzzzzzz", "keep", "names", "none", "ok", "up", "from", "both", "early",
                     "no", "show"):
            self.check(desk, f"keep {name} 3: 0", "ok")
            self.check(desk, f"show {name}", "3: 0")
            self.check(desk, f"opposite {name} {name}", "ok")
            self.check(desk, f"show {name}", "4: 0")
        self.check(desk, "why early early no", "yes")
        self.check(desk, "some both both both", "(a)")
        self.check(desk, "fraction up up 1 2 2", "ok")
        self.check(desk, "fraction from from 1 2 2", "ok")
        self.check(desk, "part up from", or_none(parting_word(up_to(1, 2, 2), from_on(1, 2, 2))))


class OneMachine(Lines):
    """Point 103."""

    def words(self, machine):
        draw = Random(103)
        return [stretched(word, draw, 12) for word in tellings_up_to(machine.letters, 1, 2)]

    def test_lets(self):
        met = set()
        for machine in machines():
            desk = desk_with(one=machine)
            for word in self.words(machine):
                told = "yes" if machine.lets(word) else "no"
                met.add(told)
                self.check(desk, f"lets one {show_endless(word)}", told)
        self.assertEqual(met, {"yes", "no"})

    def test_walk(self):
        met = set()
        for machine in machines():
            desk = desk_with(one=machine)
            for word in self.words(machine):
                way, ring = [" ".join([str(room) for room in rooms]) for rooms in machine.walk(word)]
                met.add(way == "")
                self.check(desk, f"walk one {show_endless(word)}", f"{or_dash(way)} | {ring}")
        self.assertEqual(met, {True, False})

    def test_kinds(self):
        met = set()
        for machine in machines():
            told = ", ".join(kinds_of(machine)) or "none"
            met.add(told)
            self.check(desk_with(one=machine), "kinds one", told)
        self.assertEqual(met, {
            "early no, early yes, settled, again, lasting", "early no, settled, again, lasting", "again",
            "early yes, settled, again, lasting", "settled, again, lasting", "lasting", "none",
        })

    def test_why(self):
        met = set()
        for machine in machines():
            desk = desk_with(one=machine)
            for word, kind in KINDS.items():
                bar = kind().bar(Machine(machine.steps, machine.ranks))
                told = "yes" if bar is None else "no " + " ".join([or_dash(text) for text in bar])
                met.add((word, bar is None))
                self.check(desk, f"why one {word}", told)
        self.assertEqual(met, set(product(KINDS, (True, False))))

    def test_told_lines(self):
        desk = Desk()
        for line, told in (
            ("keep one 1: 0 1; 2: 0 1", "ok"), ("show one", "1: 0 1; 2: 0 1"), ("lets one (b)", "yes"),
            ("lets one bbb(a)", "no"), ("walk one (a)", "- | 0"), ("walk one (ab)", "0 0 | 1 0"),
            ("walk one b(a)", "0 1 | 0"), ("walk one ab(b)", "0 0 | 1"), ("kinds one", "again"),
            ("why one again", "yes"), ("why one lasting", "no - a - ba"), ("why one early no", "no - a - ba"),
            ("keep two 0: 1 1; 1: 2 1; 2: 2 1", "ok"), ("kinds two", "again"),
            ("keep three 0: 1; 1: 2; 2: 0", "ok"), ("kinds three", "early no, early yes, settled, again, lasting"),
            ("keep four 0: 0 1; 1: 0 1; 2: 0 1", "ok"), ("kinds four", "lasting"),
            ("keep five 0: 1 0 0; 1: 2 0 1; 2: 0 0 2", "ok"), ("kinds five", "none"),
        ):
            self.check(desk, line, told)


class TwoMachines(Lines):
    """Point 104."""

    def pairs(self):
        draw = Random(104)
        pool = machines()
        found = [(machine, machine) for machine in edges()] + [(machine, lowered(machine)) for machine in edges()]
        found += [(up_to(1, 2, 2), from_on(1, 2, 2)), (up_to(1, 3, 3), up_to(2, 3, 3))]
        found += [(up_to(0, 1, 2), up_to(1, 1, 2)), (up_to(1, 2, 3), from_on(1, 3, 3))]
        for one in pool[:70]:
            found.append((one, draw.choice([other for other in pool if other.letters == one.letters])))
        return found

    def test_part_and_within(self):
        met = set()
        for one, other in self.pairs():
            desk = desk_with(one=one, other=other)
            word = parting_word(one, other)
            inside = is_within(one, other)
            met.add((word is None, inside))
            self.check(desk, "part one other", or_none(word))
            self.check(desk, "part other one", or_none(parting_word(other, one)))
            self.check(desk, "within one other", "yes" if inside else "no")
            self.check(desk, "within other one", "yes" if is_within(other, one) else "no")
        self.assertEqual(met, {(True, True), (False, True), (False, False)})

    def test_some(self):
        met = set()
        for one, other in self.pairs():
            desk = desk_with(one=one, other=other)
            for word, joint in JOINTS.items():
                told = or_none(joint(one, other).some_word())
                met.add((word, told == "none"))
                self.check(desk, f"some {word} one other", told)
                self.check(desk, f"some {word} other one", or_none(joint(other, one).some_word()))
        self.assertEqual(met, set(product(JOINTS, (True, False))))

    def test_one_name_twice(self):
        for machine in edges():
            desk = desk_with(one=machine)
            self.check(desk, "part one one", "none")
            self.check(desk, "within one one", "yes")
            self.check(desk, "some unlike one one", "none")
            self.check(desk, "some less one one", "none")

    def test_told_lines(self):
        desk = Desk()
        for line, told in (
            ("fraction half up 1 2 2", "ok"), ("fraction rest from 1 2 2", "ok"), ("part half rest", "aa(a)"),
            ("within half rest", "no"), ("some both half rest", "a(b)"), ("some nor half rest", "none"),
            ("fraction all up 1 1 2", "ok"), ("within half all", "yes"), ("within all half", "no"),
            ("small half half", "ok"), ("show half", "1: 1 2; 0: 1 1; 0: 2 3; 1: 3 3"),
        ):
            self.check(desk, line, told)


class WordsAndNames(Lines):
    """Point 105."""

    def words(self):
        draw = Random(105)
        return [stretched(word, draw, 20) for word in tellings_up_to(3, 1, 3)[::3]]

    def test_telling(self):
        desk = Desk()
        for word in self.words():
            self.check(desk, f"telling {show_endless(word)}", show_endless(shortest_telling(word)))
        self.check(desk, "telling ab(abab)", "(ab)")
        self.check(desk, f"telling {'ab' * 900}({'ab' * 900})", "(ab)")

    def test_same(self):
        desk = Desk()
        met = set()
        for one, other in product(self.words(), self.words()[::4]):
            place = first_unlike(one, other)
            met.add(place is None)
            told = "yes" if place is None else f"no {place}"
            self.check(desk, f"same {show_endless(one)} {show_endless(other)}", told)
        self.assertEqual(met, {True, False})
        self.check(desk, "same (ab) (aba)", "no 3")
        self.check(desk, "same a(ba) (abab)", "yes")
        self.check(desk, "same (a) (b)", "no 0")
        self.check(desk, f"same {'a' * 1900}(b) (a)", "no 1900")

    def test_value(self):
        desk = Desk()
        for word in self.words():
            for base in (2, 3):
                if base == 3 or "c" not in word[0] + word[1]:
                    top, bottom = value_of(word, base)
                    self.check(desk, f"value {show_endless(word)} {base}", f"{top}/{bottom}")
        for line, told in (("value (a) 2", "0/1"), ("value (b) 2", "1/1"), ("value (c) 3", "1/1"),
                           ("value (b) 3", "1/2"), ("value b(a) 2", "1/2"), ("value a(b) 2", "1/2")):
            self.check(desk, line, told)

    def test_a_value_of_a_line_of_four_thousand_signs(self):
        desk = Desk()
        word = ("abcbc" * 600, "cab" * 328 + "b")
        line = f"value {show_endless(word)} 3"
        self.assertTrue(3980 <= len(line) <= 4000)
        top, bottom = value_of(word, 3)
        self.check(desk, line, f"{top}/{bottom}")

    def test_names(self):
        desk = Desk()
        self.check(desk, "names", "none")
        kept = []
        for name in ("two", "one", "z", "a", "aa", "ab", "zz", "abcdefgh", "none", "b"):
            self.check(desk, f"keep {name} 0: 0", "ok")
            kept.append(name)
            self.check(desk, "names", " ".join(sorted(kept)))
        self.check(desk, "keep one 1: 0", "ok")
        self.check(desk, "names", "a aa ab abcdefgh b none one two z zz")


class Desks(Lines):
    """Points 2 and 101."""

    def test_two_desks_beside_each_other(self):
        one = Desk()
        other = Desk()
        self.check(one, "keep here 0: 0", "ok")
        self.check(other, "names", "none")
        self.check(other, "keep here 1: 0 0", "ok")
        self.check(other, "keep there 2: 0", "ok")
        self.check(one, "show here", "0: 0")
        self.check(other, "show here", "1: 0 0")
        self.check(one, "names", "here")
        self.check(other, "names", "here there")
        self.check(Desk(), "names", "none")

    def test_the_same_answer_each_time_and_by_another_desk(self):
        for machine in machines()[:60]:
            one = desk_with(one=machine)
            other = desk_with(first=nested_machine([1, 2]), one=machine)
            lines = ["show one", "kinds one"] + [f"why one {word}" for word in KINDS]
            lines += [f"some {word} one one" for word in JOINTS]
            told = [one.say(line) for line in lines]
            self.assertEqual([one.say(line) for line in reversed(lines)], told[::-1])
            self.assertEqual([other.say(line) for line in lines], told)

    def test_lines_that_ask_change_nothing(self):
        desk = desk_with(one=split_machine(), two=split_machine().opposite())
        for line in ("show one", "lets one (a)", "walk one (ab)", "kinds one", "why one again", "part one two",
                     "within one two", "some nor one two", "telling (aa)", "same (a) (b)", "value (a) 2", "names"):
            desk.say(line)
            self.check(desk, "show one", show_machine(split_machine()))
            self.check(desk, "show two", show_machine(split_machine().opposite()))
            self.check(desk, "names", "one two")


if __name__ == "__main__":
    unittest.main()
