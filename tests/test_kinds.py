"""Points 7, 8 and 51 to 55: the five kinds, their bars and marked machines."""

import unittest

from helpers import (
    bits_by_sum, drawn_machines, good_by_search, keeps_the_loops, layered_machines, loops_by_search, nested_machine,
    reached_loops, rooms_come_to, rooms_read, seen_by_search, set_of, small_machines, split_machine, tellings_up_to,
)
from looprank.errors import NoKind
from looprank.kinds import Again, EarlyNo, EarlyYes, Kind, Lasting, Settled, kinds_of
from looprank.lowest import lowered, ranks_from
from looprank.machines import Machine
from looprank.reach import trimmed

WORDS = ["early no", "early yes", "settled", "again", "lasting"]
TURNED = {"early no": "early yes", "early yes": "early no", "settled": "settled", "again": "lasting",
          "lasting": "again"}
LONG_ODD = 10 ** 30 - 1
LONG_EVEN = 10 ** 30 - 2


def kinds():
    return [EarlyNo(), EarlyYes(), Settled(), Again(), Lasting()]


def stays(rank, then):
    """Room 0 goes round by a, b leads from it to room 1 for ever."""
    return Machine([[0, 1], [1, 1]], [rank, then])


def off_the_loops():
    """Rooms 0 and 1 are on no loop, 2 is good for ever; 3 to 7, with bad and good loops, cannot be come to."""
    return Machine([[1, 2], [2, 2], [2, 2], [4, 3], [3, 4], [6, 2], [5, 6], [7, 3]], [1, 7, 4, 1, 2, 2, 1, 1])


def edges():
    """One and eight rooms, long ranks, rooms off the loops, no good loop, no bad one, and each set of kinds."""
    return [
        Machine([[0]], [0]), Machine([[0]], [1]), Machine([[0, 0, 0]], [LONG_ODD]), Machine([[0, 0]], [LONG_EVEN]),
        stays(0, 1), stays(1, 0), stays(0, 2), stays(3, 1), stays(LONG_ODD, LONG_EVEN), stays(LONG_EVEN, LONG_ODD),
        split_machine(), split_machine().opposite(), off_the_loops(), off_the_loops().opposite(),
        nested_machine([1, 2]), nested_machine([2, 1]), nested_machine([2, 3]), nested_machine([0, 1, 2]),
        nested_machine([LONG_ODD, LONG_EVEN, LONG_ODD]), nested_machine([4] * 8), nested_machine([5] * 8),
        nested_machine(list(range(8))), nested_machine(list(range(8)), 2), nested_machine(list(range(8)), 1),
        Machine([[1], [2], [3], [4], [5], [6], [7], [0]], [1, 2, 3, 4, 5, 6, 7, 8]),
        Machine([[1, 2], [1, 1], [2, 3], [3, 3]], [0, 1, 1, 0]),
        Machine([[1, 2], [0, 3], [2, 2], [3, 3]], [2, 1, 1, 0]),
    ]


def machines():
    return edges() + small_machines()[::3] + drawn_machines(51, 120) + layered_machines(52, 160)


def kinds_by_search(machine):
    """The words of the kinds, by going through all two loops that words lead to, as point 51 says."""
    loops = [(loop, good_by_search(machine, loop)) for loop in reached_loops(machine)]
    seen = {loop: bits_by_sum(set().union(*[seen_by_search(machine, room) for room in set_of(loop)]))
            for loop, good in loops}
    barred = set()
    for loop, good in loops:
        for other, other_good in loops:
            if good == other_good:
                continue
            if seen[loop] & other:
                barred.add("early yes" if good else "early no")
                if seen[other] & loop:
                    barred.add("settled")
            if loop & other == loop:
                barred.add("again" if good else "lasting")
    return [word for word in WORDS if word not in barred]


def lets_no_word_from(machine):
    """The rooms from which no good loop can be come to."""
    good = [loop for loop in loops_by_search(machine) if good_by_search(machine, loop)]
    return [room for room in range(machine.many)
            if not [loop for loop in good if seen_by_search(machine, room) & set_of(loop)]]


def ranks_by_search(machine, word):
    """The ranks of point 54; those of the last two kinds are told by point 43."""
    if word == "early no":
        dead = lets_no_word_from(machine)
        return [1 if room in dead else 0 for room in range(machine.many)]
    if word == "early yes":
        sure = lets_no_word_from(machine.opposite())
        return [0 if room in sure else 1 for room in range(machine.many)]
    if word == "settled":
        good = [loop for loop in reached_loops(machine) if good_by_search(machine, loop)]
        return [0 if [loop for loop in good if room in set_of(loop)] else 1 for room in range(machine.many)]
    return ranks_from(machine, 1 if word == "again" else 0)


class Names(unittest.TestCase):
    def test_classes_and_words(self):
        self.assertEqual([kind.word() for kind in kinds()], WORDS)
        for name in (EarlyNo, EarlyYes, Settled, Again, Lasting):
            self.assertEqual(name.__bases__, (Kind,))


class KindsOf(unittest.TestCase):
    """Points 51, 52 and 55."""

    def test_against_a_search_through_all_loops(self):
        met = set()
        for machine in machines():
            with self.subTest(steps=machine.steps, ranks=machine.ranks):
                told = kinds_of(machine)
                self.assertIsInstance(told, list)
                self.assertEqual(told, kinds_by_search(machine))
                met.add((machine.letters, tuple(told)))
        self.assertEqual(set([letters for letters, told in met]), {1, 2, 3})
        self.assertEqual(set([told for letters, told in met if letters == 3]), {
            tuple(WORDS), ("early no", "settled", "again", "lasting"), ("early yes", "settled", "again", "lasting"),
            ("settled", "again", "lasting"), ("again",), ("lasting",), (),
        })

    def test_told_machines(self):
        for machine, told in (
            (Machine([[0]], [0]), WORDS), (Machine([[0]], [LONG_ODD]), WORDS), (nested_machine([4] * 8), WORDS),
            (nested_machine([5] * 8), WORDS), (stays(0, 1), ["early no", "settled", "again", "lasting"]),
            (stays(1, 0), ["early yes", "settled", "again", "lasting"]), (stays(0, 2), WORDS), (stays(3, 1), WORDS),
            (Machine([[1, 2], [1, 1], [2, 3], [3, 3]], [0, 1, 1, 0]), ["early yes", "settled", "again", "lasting"]),
            (Machine([[0, 1], [1, 2], [2, 2]], [0, 1, 2]), ["settled", "again", "lasting"]),
            (nested_machine([1, 2]), ["again"]), (nested_machine([2, 1]), ["again"]),
            (nested_machine([2, 3]), ["lasting"]), (nested_machine([0, 1, 2]), []),
            (nested_machine(list(range(8)), 1), WORDS), (off_the_loops(), WORDS),
        ):
            self.assertEqual(kinds_of(machine), told, (machine.steps, machine.ranks))

    def test_rooms_that_no_word_leads_to_count_for_nothing(self):
        for machine in machines():
            self.assertEqual(kinds_of(trimmed(machine)), kinds_of(machine))

    def test_how_the_kinds_hang_together(self):
        for machine in machines():
            told = kinds_of(machine)
            if "early no" in told or "early yes" in told:
                self.assertIn("settled", told)
            self.assertIs("settled" in told, "again" in told and "lasting" in told)

    def test_the_opposite(self):
        for machine in machines():
            turned = [TURNED[word] for word in kinds_of(machine)]
            self.assertEqual(kinds_of(machine.opposite()), [word for word in WORDS if word in turned])

    def test_alike_machines_are_of_the_same_kinds(self):
        for machine in machines():
            others = [lowered(machine), machine.opposite().opposite()]
            if machine.many <= 4:
                twice = [[room + machine.many for room in row] for row in machine.steps] + machine.steps
                others.append(Machine(twice, machine.ranks * 2))
            for other in others:
                self.assertEqual(kinds_of(other), kinds_of(machine))

    def test_beginnings_with_which_no_word_and_every_word_is_let_by(self):
        """Point 52, on words with a short beginning and round, and on the word of the bar."""
        for machine in edges() + layered_machines(53, 60) + drawn_machines(54, 40):
            for kind, dead, lets in ((EarlyNo(), lets_no_word_from(machine), False),
                                     (EarlyYes(), lets_no_word_from(machine.opposite()), True)):
                bar = kind.bar(machine)
                words = tellings_up_to(machine.letters, 1, 3) if bar is None else [(bar[0], bar[1])]
                for word in words:
                    if machine.lets(word) is lets:
                        count = len(word[0]) + machine.many * len(word[1]) + 1
                        rooms = rooms_read(machine, word, 0, count)
                        self.assertIs(bool(set(rooms) & set(dead)), bar is None, (machine.steps, word))


class Bars(unittest.TestCase):
    """Point 53."""

    def walked(self, machine, bar):
        """The two loops of a bar, its words being walked letter by letter."""
        self.assertIsInstance(bar, tuple)
        self.assertEqual(len(bar), 4)
        front, one, way, other = bar
        start = machine.after(0, front)
        end = machine.after(start, way)
        loops = []
        for room, text in ((start, one), (end, other)):
            self.assertNotEqual(text, "")
            self.assertEqual(machine.after(room, text), room)
            loops.append(set(rooms_come_to(machine, room, text)))
        return loops

    def goodness(self, machine, loops):
        return tuple([good_by_search(machine, bits_by_sum(loop)) for loop in loops])

    def test_bars(self):
        allowed = {"early no": [(False, True)], "early yes": [(True, False)], "again": [(True, False)],
                   "lasting": [(False, True)], "settled": [(True, False), (False, True)]}
        met = set()
        for machine in machines():
            told = kinds_by_search(machine)
            for kind in kinds():
                with self.subTest(steps=machine.steps, ranks=machine.ranks, kind=kind.word()):
                    bar = kind.bar(machine)
                    self.assertIs(bar is None, kind.word() in told)
                    if bar is None:
                        continue
                    loops = self.walked(machine, bar)
                    good = self.goodness(machine, loops)
                    self.assertIn(good, allowed[kind.word()])
                    met.add((kind.word(), good))
                    if not kind.word().startswith("early"):
                        self.assertEqual(bar[2], "")
                        self.assertLess(loops[0], loops[1])
        self.assertEqual(met, {(word, good) for word in WORDS for good in allowed[word]})

    def test_a_way_of_several_letters(self):
        machine = Machine([[0, 1], [1, 2], [2, 3], [3, 4], [4, 4]], [1, 3, 5, 7, 8])
        front, one, way, other = EarlyNo().bar(machine)
        end = machine.after(0, front + way)
        self.assertEqual((end, machine.after(end, other)), (4, 4))
        self.assertIsNone(EarlyYes().bar(machine))

    def test_one_room(self):
        for rank in (0, 1, LONG_EVEN, LONG_ODD):
            self.assertEqual([kind.bar(Machine([[0, 0]], [rank])) for kind in kinds()], [None] * 5)

    def test_loops_side_by_side_bar_nothing(self):
        machine = Machine([[1, 2], [1, 1], [2, 2]], [5, 0, 1])
        self.assertEqual([kind.bar(machine) for kind in kinds()], [None] * 5)

    def test_an_inner_loop_that_shares_no_greatest_rank(self):
        """The good loop lies deep within a bad one, round which there is a good one again."""
        machine = nested_machine([0, 2, 1, 3, 4])
        loops = self.walked(machine, Again().bar(machine))
        self.assertEqual(self.goodness(machine, loops), (True, False))
        loops = self.walked(machine, Lasting().bar(machine))
        self.assertEqual(self.goodness(machine, loops), (False, True))


class Marked(unittest.TestCase):
    """Point 54."""

    def test_marked_machines(self):
        met = set()
        for machine in machines():
            told = kinds_by_search(machine)
            loops = reached_loops(machine)
            for kind in kinds():
                if kind.word() not in told:
                    continue
                with self.subTest(steps=machine.steps, ranks=machine.ranks, kind=kind.word()):
                    other = kind.marked(machine)
                    self.assertIsInstance(other, Machine)
                    self.assertEqual(other.steps, machine.steps)
                    self.assertEqual(other.ranks, ranks_by_search(machine, kind.word()))
                    self.assertTrue(keeps_the_loops(machine, loops, other.ranks))
                    met.update([(kind.word(), rank) for rank in other.ranks])
        wanted = {(word, rank) for word in WORDS for rank in ((1, 2) if word == "again" else (0, 1))}
        self.assertEqual(met, wanted)

    def test_marked_machines_let_by_the_same_words(self):
        for machine in edges() + drawn_machines(55, 40) + layered_machines(56, 40):
            for kind in kinds():
                if kind.bar(machine) is None:
                    other = kind.marked(machine)
                    for word in tellings_up_to(machine.letters, 2, 3):
                        self.assertIs(other.lets(word), machine.lets(word), (machine.steps, machine.ranks, word))
                    self.assertIn(kind.word(), kinds_of(other))

    def test_told_machines(self):
        machine = off_the_loops()
        self.assertEqual(EarlyNo().marked(machine).ranks, [0] * 8)
        self.assertEqual(EarlyYes().marked(machine).ranks, [0, 0, 0, 1, 1, 1, 1, 1])
        self.assertEqual(Settled().marked(machine).ranks, [1, 1, 0, 1, 1, 1, 1, 1])
        self.assertEqual(Again().marked(machine).ranks, [1, 1, 2, 1, 1, 1, 1, 1])
        self.assertEqual(Lasting().marked(machine).ranks, [0] * 8)
        machine = stays(LONG_EVEN, LONG_ODD)
        self.assertEqual(EarlyNo().marked(machine).ranks, [0, 1])
        self.assertEqual(Settled().marked(machine).ranks, [0, 1])
        self.assertEqual(Again().marked(machine).ranks, [2, 1])
        self.assertEqual(Lasting().marked(machine).ranks, [0, 1])

    def test_dead_and_sure_rooms_that_no_word_leads_to(self):
        machine = Machine([[0, 0], [1, 1], [2, 2], [1, 2]], [0, 1, 2, 0])
        self.assertEqual(EarlyNo().marked(machine).ranks, [0, 1, 0, 0])
        self.assertEqual(EarlyYes().marked(machine).ranks, [0, 1, 0, 1])
        self.assertEqual(Settled().marked(machine).ranks, [0, 1, 1, 1])

    def test_refused_where_not_of_the_kind(self):
        refused = set()
        for machine in machines():
            told = kinds_by_search(machine)
            for kind in kinds():
                if kind.word() not in told:
                    refused.add(kind.word())
                    with self.assertRaises(NoKind) as caught:
                        kind.marked(machine)
                    self.assertIs(caught.exception.__class__, NoKind)
        self.assertEqual(refused, set(WORDS))


class Own(unittest.TestCase):
    """Point 2: lists are the asker's own, and the same question has the same answer."""

    def test_the_list_of_kinds(self):
        machine = stays(0, 1)
        told = kinds_of(machine)
        told.append("early yes")
        told[0] = ""
        self.assertEqual(kinds_of(machine), ["early no", "settled", "again", "lasting"])

    def test_a_marked_machine_shares_no_list(self):
        machine = stays(0, 3)
        for kind in (EarlyNo(), Settled(), Again(), Lasting()):
            kept = list(kind.marked(machine).ranks)
            other = kind.marked(machine)
            other.steps[0][0] = 1
            other.steps.append([0, 0])
            other.ranks[1] = 9
            self.assertEqual((machine.steps, machine.ranks), ([[0, 1], [1, 1]], [0, 3]))
            self.assertEqual((kind.marked(machine).steps, kind.marked(machine).ranks), ([[0, 1], [1, 1]], kept))

    def test_the_same_answer_each_time_and_of_a_twin(self):
        for machine in machines():
            twin = Machine(machine.steps, machine.ranks)
            for kind, other in zip(kinds(), kinds()):
                bar = kind.bar(machine)
                self.assertEqual(kind.bar(machine), bar)
                self.assertEqual(other.bar(twin), bar)
            self.assertEqual((machine.steps, machine.ranks), (twin.steps, twin.ranks))


if __name__ == "__main__":
    unittest.main()
