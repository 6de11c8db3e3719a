"""Points 7 and 41 to 46: nests of loops, new ranks and the fewest ranks."""

import unittest
from itertools import product

from helpers import (
    bits_by_sum, drawn_machines, good_by_search, keeps_the_loops, nested_machine, reached_loops, rooms_come_to,
    seen_by_search, set_of, small_machines, split_machine, tellings_up_to,
)
from looprank.lowest import lowered, lowest_ranks, nests, ranks_from
from looprank.machines import Machine
from looprank.reach import trimmed

LONG_ODD = 10 ** 30 - 1
LONG_EVEN = 10 ** 30 - 2


def edges():
    """One and eight rooms, one rank for all, unlike ones, long ones, no good or no bad loop, rooms off the loops."""
    return [
        Machine([[0]], [0]), Machine([[0, 0, 0]], [1]), Machine([[0]], [LONG_ODD]),
        nested_machine(list(range(8))), nested_machine(list(range(1, 9))), nested_machine([3] * 8),
        nested_machine([4] * 8), nested_machine(list(range(7, -1, -1))), nested_machine([1, 2, 1, 2, 1, 2, 1, 2]),
        nested_machine([0, 2, 1, 3, 5, 4, 6, 9], 2), nested_machine([10 ** 29 + room for room in range(8)]),
        nested_machine([LONG_ODD, LONG_EVEN]), nested_machine([LONG_EVEN, LONG_ODD]), split_machine(), forked(),
        ringed(), Machine([[1], [2], [3], [4], [5], [6], [7], [0]], list(range(8))),
        Machine([[0, 0]] + [[1, 2]] * 7, [0, 1, 2, 3, 4, 5, 6, 7]), Machine([[7, 7]] * 8, [5, 1, 2, 3, 4, 9, 6, 8]),
    ]


def forked():
    """From room 0, on no loop, a leads to a nest good, bad and b to a nest bad, good: both are of two loops."""
    return Machine([[1, 3, 1], [1, 2, 2], [1, 1, 1], [3, 4, 4], [3, 3, 3]], [9, 0, 1, 1, 2])


def ringed():
    """Two bad loops of one room, which only a good room joins, and a bad room round all."""
    return Machine([[0, 1, 2], [0, 2, 3], [2, 1, 1], [0, 0, 0]], [1, 2, 1, 3])


def machines():
    return edges() + small_machines()[::5] + drawn_machines(41, 160)


def lengths_by_search(machine, loops):
    """How many loops the longest rows have that begin with a good and with a bad loop, by going through all loops."""
    longest = {}
    for loop in sorted(loops, key=lambda bits: len(set_of(bits))):
        good = good_by_search(machine, loop)
        longest[loop] = {good: 1, not good: 0}
        for other in longest:
            if other != loop and other & loop == other and good_by_search(machine, other) != good:
                for sort in (True, False):
                    if longest[other][sort]:
                        longest[loop][sort] = max(longest[loop][sort], longest[other][sort] + 1)
    return tuple([max([row[sort] for row in longest.values()]) for sort in (True, False)])


def length(nest):
    return 0 if nest is None else len(nest[1])


def rooms_on(loops):
    return set().union(*[set_of(loop) for loop in loops])


class Nests(unittest.TestCase):
    """Points 41 and 42."""

    def check_nest(self, machine, nest, good):
        """All that point 41 asks of a nest that begins with a loop of a sort."""
        self.assertIsInstance(nest, tuple)
        self.assertEqual(len(nest), 2)
        front, rounds = nest
        self.assertIsInstance(rounds, list)
        room = machine.after(0, front)
        inner = set()
        for text in rounds:
            self.assertNotEqual(text, "")
            self.assertEqual(machine.after(room, text), room)
            rooms = set(rooms_come_to(machine, room, text))
            self.assertLess(inner, rooms)
            self.assertIs(good_by_search(machine, bits_by_sum(rooms)), good)
            inner = rooms
            good = not good

    def test_nests_are_as_long_as_can_be(self):
        for machine in machines():
            with self.subTest(steps=machine.steps, ranks=machine.ranks):
                told = nests(machine)
                self.assertIsInstance(told, tuple)
                self.assertEqual(len(told), 2)
                wanted = lengths_by_search(machine, reached_loops(machine))
                self.assertEqual((length(told[0]), length(told[1])), wanted)
                for nest, good in zip(told, (True, False)):
                    if nest is not None:
                        self.check_nest(machine, nest, good)
                        self.assertGreater(len(nest[1]), 0)

    def test_one_room(self):
        self.assertEqual(nests(Machine([[0]], [0])), (("", ["a"]), None))
        self.assertEqual(nests(Machine([[0]], [LONG_ODD])), (None, ("", ["a"])))

    def test_no_good_loop_and_no_bad_one(self):
        for ranks in ([1] * 8, [3], [5, 3, 1], [LONG_ODD] * 3):
            machine = nested_machine(ranks)
            told = nests(machine)
            self.assertIsNone(told[0])
            self.assertEqual(len(told[1][1]), 1)
            other = nests(machine.opposite())
            self.assertEqual(len(other[0][1]), 1)
            self.assertIsNone(other[1])

    def test_lengths(self):
        for machine, good, bad in (
            (nested_machine(list(range(8))), 8, 7), (nested_machine(list(range(1, 9))), 7, 8),
            (nested_machine([4] * 8), 1, 0), (nested_machine([1, 2, 1, 2, 1, 2, 1, 2]), 1, 2),
            (forked(), 2, 2), (split_machine(), 1, 1), (ringed(), 2, 3),
            (nested_machine([LONG_ODD, LONG_EVEN]), 2, 1), (nested_machine([LONG_EVEN, LONG_ODD]), 2, 1),
        ):
            told = nests(machine)
            self.assertEqual((length(told[0]), length(told[1])), (good, bad), machine.steps)

    def test_rooms_that_cannot_be_come_to_count_for_nothing(self):
        machine = Machine([[0, 0], [2, 1], [1, 2]], [0, 1, 2])
        self.assertEqual(length(nests(machine)[0]), 1)
        self.assertIsNone(nests(machine)[1])

    def test_alike_machines_have_nests_of_the_same_lengths(self):
        for machine in machines():
            wanted = tuple([length(nest) for nest in nests(machine)])
            twice = [[room + machine.many for room in row] for row in machine.steps] + machine.steps
            others = [trimmed(machine), lowered(machine), machine.opposite().opposite()]
            if machine.many <= 4:
                others.append(Machine(twice, machine.ranks * 2))
            for other in others:
                self.assertEqual(tuple([length(nest) for nest in nests(other)]), wanted)

    def test_the_opposite_has_the_lengths_the_other_way_round(self):
        for machine in machines():
            told = nests(machine)
            other = nests(machine.opposite())
            self.assertEqual((length(told[0]), length(told[1])), (length(other[1]), length(other[0])))

    def test_nests_are_the_askers_own(self):
        machine = forked()
        kept = (nests(machine)[0][1][:], nests(machine)[1][1][:])
        told = nests(machine)
        told[0][1].append("a")
        told[1][1].clear()
        self.assertEqual((nests(machine)[0][1], nests(machine)[1][1]), kept)
        self.assertEqual((nests(forked())[0][1], nests(forked())[1][1]), kept)


class NewRanks(unittest.TestCase):
    """Points 43 and 44."""

    def check_ranks(self, machine, base, ranks):
        loops = reached_loops(machine)
        self.assertIsInstance(ranks, list)
        self.assertEqual(len(ranks), machine.many)
        self.assertGreaterEqual(min(ranks), base)
        for room in range(machine.many):
            if room not in rooms_on(loops):
                self.assertEqual(ranks[room], base, (machine.steps, room))
        self.assertTrue(keeps_the_loops(machine, loops, ranks), (machine.steps, machine.ranks, ranks))

    def test_new_ranks(self):
        for machine in machines():
            good, bad = lengths_by_search(machine, reached_loops(machine))
            for base, greatest in ((0, max(good - 1, bad)), (1, max(good + 1, bad))):
                with self.subTest(steps=machine.steps, ranks=machine.ranks, base=base):
                    told = ranks_from(machine, base)
                    self.check_ranks(machine, base, told)
                    self.assertEqual(max(told), greatest)

    def test_the_greatest_is_as_small_as_it_can_be(self):
        """No list of lesser numbers keeps all loops, by going through all such lists."""
        for machine in [ringed(), forked()] + small_machines()[::3] + drawn_machines(43, 60, 1, 5):
            loops = reached_loops(machine)
            on = sorted(rooms_on(loops))
            for base in (0, 1):
                for drawn in product(range(base, max(ranks_from(machine, base))), repeat=len(on)):
                    ranks = dict(zip(on, drawn))
                    self.assertFalse(keeps_the_loops(machine, loops, ranks), (machine.steps, machine.ranks, ranks))

    def test_one_room(self):
        for rank in (0, 2, LONG_EVEN):
            self.assertEqual(ranks_from(Machine([[0]], [rank]), 0), [0])
            self.assertEqual(ranks_from(Machine([[0]], [rank]), 1), [2])
        for rank in (1, 3, LONG_ODD):
            self.assertEqual(ranks_from(Machine([[0]], [rank]), 0), [1])
            self.assertEqual(ranks_from(Machine([[0]], [rank]), 1), [1])

    def test_eight_rooms_of_unlike_ranks(self):
        machine = nested_machine([10 ** 29 + 10 * room + room % 2 for room in range(8)])
        self.assertEqual(max(ranks_from(machine, 0)), 7)
        self.assertEqual(max(ranks_from(machine, 1)), 9)

    def test_rooms_off_the_loops_have_the_base(self):
        machine = split_machine()
        for base in (0, 1):
            told = ranks_from(machine, base)
            self.assertEqual([told[room] for room in (0, 4, 5, 6, 7)], [base] * 5)
            self.assertEqual(max(told[1], told[2]), 2 * base)
            self.assertEqual(told[3], 1)

    def test_the_machine_with_new_ranks_is_alike(self):
        """Point 7: as many letters, and the same words are let by."""
        for machine in edges() + drawn_machines(44, 48):
            for base in (0, 1):
                other = Machine(machine.steps, ranks_from(machine, base))
                for word in tellings_up_to(machine.letters, 2, 3):
                    self.assertIs(other.lets(word), machine.lets(word), (machine.steps, machine.ranks, word))

    def test_new_ranks_are_the_askers_own(self):
        machine = forked()
        kept = list(ranks_from(machine, 0))
        told = ranks_from(machine, 0)
        told[0] = 7
        told.append(1)
        self.assertEqual(ranks_from(machine, 0), kept)
        self.assertEqual(machine.ranks, forked().ranks)


class Lowest(unittest.TestCase):
    """Points 45 and 46."""

    def test_ranks_and_papers(self):
        met = set()
        for machine in machines():
            told = nests(machine)
            good = length(told[0])
            bad = length(told[1])
            met.add((good > bad) - (bad > good))
            wanted = [told[0]] if good > bad else [told[1]] if bad > good else [told[0], told[1]]
            answer = lowest_ranks(machine)
            self.assertIsInstance(answer, tuple)
            self.assertEqual(answer, (ranks_from(machine, 1 if bad > good else 0), wanted), machine.steps)
        self.assertEqual(met, {-1, 0, 1})

    def test_how_many_unlike_ranks(self):
        for machine in machines():
            ranks, papers = lowest_ranks(machine)
            least = len(papers[0][1]) + len(papers) - 1
            self.assertEqual([len(paper[1]) for paper in papers], [least + 1 - len(papers)] * len(papers))
            reached = seen_by_search(machine, 0)
            self.assertEqual(len(set([ranks[room] for room in reached])), least, (machine.steps, machine.ranks))
            self.assertLessEqual(least, len(set([machine.ranks[room] for room in reached])))

    def test_no_machine_with_the_same_steps_and_fewer_unlike_ranks_is_alike(self):
        for machine in small_machines()[::3] + drawn_machines(45, 48, 1, 4):
            loops = reached_loops(machine)
            reached = seen_by_search(machine, 0)
            least = len(set([lowest_ranks(machine)[0][room] for room in reached]))
            for ranks in product(range(4), repeat=machine.many):
                if len(set([ranks[room] for room in reached])) < least:
                    self.assertFalse(keeps_the_loops(machine, loops, ranks), (machine.steps, machine.ranks, ranks))

    def test_one_room(self):
        self.assertEqual(lowest_ranks(Machine([[0]], [LONG_EVEN])), ([0], [("", ["a"])]))
        self.assertEqual(lowest_ranks(Machine([[0]], [LONG_ODD])), ([1], [("", ["a"])]))

    def test_one_rank_for_all_rooms(self):
        self.assertEqual(lowest_ranks(nested_machine([6] * 8))[0], [0] * 8)
        self.assertEqual(lowest_ranks(nested_machine([7] * 8))[0], [1] * 8)

    def test_a_longer_nest_that_begins_with_a_bad_loop(self):
        ranks, papers = lowest_ranks(nested_machine(list(range(1, 9))))
        self.assertEqual(sorted(set(ranks)), [1, 2, 3, 4, 5, 6, 7, 8])
        self.assertEqual([len(paper[1]) for paper in papers], [8])

    def test_a_longer_nest_that_begins_with_a_good_loop(self):
        ranks, papers = lowest_ranks(nested_machine(list(range(8))))
        self.assertEqual(sorted(set(ranks)), [0, 1, 2, 3, 4, 5, 6, 7])
        self.assertEqual([len(paper[1]) for paper in papers], [8])

    def test_two_nests_of_one_length(self):
        machine = forked()
        ranks, papers = lowest_ranks(machine)
        self.assertEqual(sorted(set(ranks)), [0, 1, 2])
        self.assertEqual([len(paper[1]) for paper in papers], [2, 2])
        lets = [machine.lets((front, rounds[0])) for front, rounds in papers]
        self.assertEqual(lets, [True, False])

    def test_ranks_that_skip_are_drawn_together(self):
        self.assertEqual(lowest_ranks(Machine([[0, 1], [0, 1]], [40, 81]))[0], [0, 1])
        self.assertEqual(lowest_ranks(Machine([[0, 1], [0, 1]], [80, 41]))[0], [2, 1])
        self.assertEqual(lowest_ranks(Machine([[0, 1], [0, 1]], [2, 40]))[0], [0, 0])

    def test_lowered(self):
        for machine in machines():
            low = lowered(machine)
            self.assertIsInstance(low, Machine)
            self.assertEqual((low.steps, low.ranks), (machine.steps, lowest_ranks(machine)[0]))
            again = lowered(low)
            self.assertEqual(max(again.ranks), max(low.ranks))

    def test_a_lowered_machine_is_alike(self):
        for machine in edges() + drawn_machines(46, 48):
            low = lowered(machine)
            self.assertEqual(low.letters, machine.letters)
            for word in tellings_up_to(machine.letters, 2, 3):
                self.assertIs(low.lets(word), machine.lets(word), (machine.steps, machine.ranks, word))

    def test_the_papers_are_let_by_by_turns(self):
        """Behind its front the rounds of each paper are words that are let by and not, by turns."""
        for machine in machines():
            for front, rounds in lowest_ranks(machine)[1]:
                lets = [machine.lets((front, text)) for text in rounds]
                self.assertEqual(lets, [(place % 2 == 0) == lets[0] for place in range(len(lets))])


class Own(unittest.TestCase):
    """Point 2: lists are the asker's own, and the same question has the same answer."""

    def test_lists_given_back_may_be_changed(self):
        machine = forked()
        kept = repr(lowest_ranks(machine))
        ranks, papers = lowest_ranks(machine)
        ranks[0] = 50
        papers[0][1].append("b")
        papers[1][1].clear()
        papers.append(None)
        self.assertEqual(repr(lowest_ranks(machine)), kept)
        self.assertEqual((machine.steps, machine.ranks), (forked().steps, forked().ranks))

    def test_lowered_shares_no_list(self):
        machine = forked()
        low = lowered(machine)
        low.steps[0][0] = 4
        low.steps.append([0, 0, 0])
        low.ranks[0] = 9
        self.assertEqual((machine.steps, machine.ranks), (forked().steps, forked().ranks))
        self.assertEqual(lowered(machine).steps, forked().steps)
        self.assertEqual(lowered(machine).ranks, lowest_ranks(machine)[0])

    def test_lists_handed_in_may_be_changed_behind_it(self):
        steps = [[0, 1], [0, 1]]
        ranks = [2, 1]
        machine = Machine(steps, ranks)
        low = lowered(machine)
        steps[0][0] = 1
        ranks[0] = 1
        self.assertEqual((low.steps, low.ranks), ([[0, 1], [0, 1]], [2, 1]))
        self.assertEqual(lowest_ranks(machine)[0], [2, 1])

    def test_the_same_answer_each_time_and_of_a_twin(self):
        for machine in machines():
            twin = Machine(machine.steps, machine.ranks)
            for ask in (nests, lowest_ranks, lambda asked: ranks_from(asked, 0), lambda asked: ranks_from(asked, 1),
                        lambda asked: lowered(asked).ranks):
                first = ask(machine)
                self.assertEqual(ask(machine), first)
                self.assertEqual(ask(twin), first)
            self.assertEqual((machine.steps, machine.ranks), (twin.steps, twin.ranks))


if __name__ == "__main__":
    unittest.main()
