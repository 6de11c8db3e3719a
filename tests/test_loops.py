"""Points 6 and 31 to 38: sets of rooms, and loops in them."""

import unittest
from random import Random

from helpers import (
    bits_by_sum, drawn_machines, good_by_search, is_round_of, loops_by_search, nested_machine, rooms_come_to,
    seen_by_search, set_of, small_machines, split_machine, tellings_up_to, top_by_search,
)
from looprank.errors import NoLoop
from looprank.loops import (
    bits_of, dead_rooms, is_good, is_loop, loop_found, loop_parts, reaching, rooms_of, round_in, seen_from,
    sure_rooms, top_rank, way_in,
)
from looprank.machines import Machine

LONG_ODD = 10 ** 30 - 1
LONG_EVEN = 10 ** 30 - 2
NO_SELF = [[1], [2], [2]]


def machines():
    """Machines drawn with a fixed seed, of one to eight rooms and one to three letters, and some small ones."""
    edges = [split_machine(), nested_machine(list(range(8))), nested_machine([3] * 8), nested_machine([0]),
             nested_machine([LONG_ODD, LONG_EVEN, LONG_ODD]), Machine([[1], [2], [3], [4], [5], [6], [7], [0]], [1] * 8)]
    return edges + small_machines()[::7] + drawn_machines(31, 64)


def all_sets(machine):
    return range(2 ** machine.many)


def some_sets(machine, count=24):
    """All sets of a small machine; of a greater one the full one, the empty one and some drawn with a fixed seed."""
    if machine.many <= 4:
        return list(all_sets(machine))
    draw = Random(machine.many)
    return [0, 2 ** machine.many - 1] + [draw.randrange(2 ** machine.many) for number in range(count)]


def within(bits, allowed):
    return set_of(bits) <= set_of(allowed)


class Sweep(unittest.TestCase):
    def test_the_machines_of_these_tests_are_of_all_sizes(self):
        told = machines()
        self.assertEqual(set([machine.letters for machine in told]), {1, 2, 3})
        self.assertEqual(set([machine.many for machine in told]), set(range(1, 9)))


class Bits(unittest.TestCase):
    """Point 31."""

    def test_bits_of_rooms(self):
        self.assertEqual(bits_of([]), 0)
        self.assertEqual(bits_of([0]), 1)
        self.assertEqual(bits_of([3]), 8)
        self.assertEqual(bits_of([0, 1, 2]), 7)
        self.assertEqual(bits_of([1000]), 2 ** 1000)

    def test_any_order_and_rooms_more_than_once(self):
        self.assertEqual(bits_of([5, 0, 2]), 37)
        self.assertEqual(bits_of([2, 2, 2]), 4)
        self.assertEqual(bits_of([7, 1, 7, 1, 0]), 131)
        self.assertEqual(bits_of([1000] * 1000), 2 ** 1000)

    def test_rooms_of_bits(self):
        self.assertEqual(rooms_of(0), [])
        self.assertEqual(rooms_of(1), [0])
        self.assertEqual(rooms_of(8), [3])
        self.assertEqual(rooms_of(37), [0, 2, 5])
        self.assertEqual(rooms_of(2 ** 1000 + 1), [0, 1000])
        self.assertEqual(rooms_of(2 ** 1001 - 1), list(range(1001)))

    def test_there_and_back(self):
        draw = Random(31)
        for size in list(range(20)) + [100, 999, 1000]:
            rooms = [draw.randrange(1001) for number in range(size)]
            self.assertEqual(bits_of(rooms), bits_by_sum(rooms))
            self.assertEqual(rooms_of(bits_of(rooms)), sorted(set(rooms)))
        for bits in range(600):
            self.assertEqual(set(rooms_of(bits)), set_of(bits))
            self.assertEqual(bits_of(rooms_of(bits)), bits)

    def test_lists_are_copies(self):
        rooms = [5, 0, 5]
        self.assertEqual(bits_of(rooms), 33)
        self.assertEqual(rooms, [5, 0, 5])
        told = rooms_of(33)
        told.append(9)
        self.assertEqual(rooms_of(33), [0, 5])


class ComeTo(unittest.TestCase):
    """Point 32."""

    def test_the_rooms_seen_from_a_room(self):
        machine = split_machine()
        told = [rooms_of(seen_from(machine, room)) for room in range(8)]
        self.assertEqual(told[:5], [[0, 1, 2, 3, 4], [1, 2], [1, 2], [3], [1, 2, 3, 4]])
        self.assertEqual(told[5:], [[0, 1, 2, 3, 4, 5, 6, 7], [3, 6, 7], [3, 6, 7]])

    def test_the_rooms_that_reach_a_goal(self):
        machine = split_machine()
        self.assertEqual(rooms_of(reaching(machine, 0)), [])
        self.assertEqual(rooms_of(reaching(machine, bits_of([0]))), [0, 5])
        self.assertEqual(rooms_of(reaching(machine, bits_of([3]))), [0, 3, 4, 5, 6, 7])
        self.assertEqual(rooms_of(reaching(machine, bits_of([2, 5]))), [0, 1, 2, 4, 5])
        self.assertEqual(reaching(machine, 255), 255)

    def test_one_room(self):
        self.assertEqual(seen_from(Machine([[0]], [0]), 0), 1)
        self.assertEqual(reaching(Machine([[0]], [0]), 1), 1)
        self.assertEqual(reaching(Machine([[0]], [0]), 0), 0)

    def test_a_room_is_seen_from_itself_also_where_no_letter_leads_back(self):
        machine = Machine(NO_SELF, [0, 0, 0])
        self.assertEqual(seen_from(machine, 0), 7)
        self.assertEqual(seen_from(machine, 1), 6)
        self.assertEqual(reaching(machine, 1), 1)
        self.assertEqual(reaching(machine, 2), 3)

    def test_against_a_search(self):
        for machine in machines():
            seen = [seen_by_search(machine, room) for room in range(machine.many)]
            for room in range(machine.many):
                self.assertEqual(seen_from(machine, room), bits_by_sum(seen[room]))
            for goals in some_sets(machine):
                reach = [room for room in range(machine.many) if seen[room] & set_of(goals)]
                self.assertEqual(reaching(machine, goals), bits_by_sum(reach))


class Loops(unittest.TestCase):
    """Points 6, 33 and 34."""

    def test_the_parts_of_a_machine(self):
        machine = split_machine()
        self.assertEqual([rooms_of(part) for part in loop_parts(machine, 255)], [[1, 2], [3], [6, 7]])
        self.assertEqual([rooms_of(part) for part in loop_parts(machine, bits_of([0, 1, 3, 6, 7]))], [[3], [6, 7]])

    def test_parts_go_by_their_least_rooms(self):
        machine = Machine([[4, 0], [3, 1], [2, 2], [1, 3], [0, 4]], [0] * 5)
        self.assertEqual([rooms_of(part) for part in loop_parts(machine, 31)], [[0, 4], [1, 3], [2]])
        self.assertEqual([rooms_of(part) for part in loop_parts(machine, 30)], [[1, 3], [2], [4]])

    def test_no_loop_in_the_allowed_rooms(self):
        machine = split_machine()
        for rooms in ([], [0], [4], [0, 4], [1], [2, 6], [0, 4, 5], [7]):
            self.assertEqual(loop_parts(machine, bits_of(rooms)), [], rooms)

    def test_a_loop_may_not_leave_the_allowed_rooms(self):
        machine = Machine([[1], [2], [0]], [0, 0, 0])
        self.assertEqual(loop_parts(machine, 7), [7])
        for allowed in range(7):
            self.assertEqual(loop_parts(machine, allowed), [])

    def test_one_room(self):
        machine = Machine([[0]], [1])
        self.assertEqual(loop_parts(machine, 1), [1])
        self.assertEqual(loop_parts(machine, 0), [])
        self.assertIs(is_loop(machine, 1), True)
        self.assertIs(is_loop(machine, 0), False)

    def test_parts_are_the_greatest_loops(self):
        for machine in machines():
            loops = loops_by_search(machine)
            for allowed in some_sets(machine, 40):
                inside = [loop for loop in loops if within(loop, allowed)]
                greatest = [loop for loop in inside
                            if not [other for other in inside if other != loop and within(loop, other)]]
                told = sorted(greatest, key=lambda bits: min(set_of(bits)))
                self.assertEqual(loop_parts(machine, allowed), told, (machine.steps, allowed))

    def test_which_sets_are_loops(self):
        machine = split_machine()
        loops = [bits for bits in all_sets(machine) if is_loop(machine, bits)]
        self.assertEqual([rooms_of(bits) for bits in loops], [[1, 2], [3], [6, 7]])
        for machine in machines():
            loops = loops_by_search(machine)
            for bits in all_sets(machine):
                self.assertIs(is_loop(machine, bits), bits in loops, (machine.steps, bits))

    def test_two_loops_side_by_side_are_none(self):
        machine = Machine([[0, 1], [1, 1]], [0, 0])
        self.assertIs(is_loop(machine, 1), True)
        self.assertIs(is_loop(machine, 2), True)
        self.assertIs(is_loop(machine, 3), False)

    def test_the_rooms_of_walks_are_loops(self):
        """Point 6: a word is let by just where the loop of its walk is good."""
        for machine in drawn_machines(6, 32):
            for word in tellings_up_to(machine.letters, 1, 3):
                ring = bits_of(machine.walk(word)[1])
                self.assertIs(is_loop(machine, ring), True)
                self.assertIs(is_good(machine, ring), machine.lets(word))

    def test_the_list_of_parts_is_the_askers_own(self):
        machine = split_machine()
        told = loop_parts(machine, 255)
        told.append(255)
        told[0] = 0
        self.assertEqual([rooms_of(part) for part in loop_parts(machine, 255)], [[1, 2], [3], [6, 7]])


class Ranks(unittest.TestCase):
    """Point 34."""

    def test_the_greatest_rank(self):
        machine = split_machine()
        self.assertEqual(top_rank(machine, bits_of([1, 2])), 2)
        self.assertEqual(top_rank(machine, bits_of([0, 4, 6])), 9)
        self.assertEqual(top_rank(machine, 255), 9)
        self.assertIs(is_good(machine, bits_of([1, 2])), True)
        self.assertIs(is_good(machine, bits_of([3])), False)
        self.assertIs(is_good(machine, bits_of([0, 4, 6])), False)

    def test_rank_nought_and_long_ranks(self):
        machine = Machine([[0], [1], [2]], [0, LONG_ODD, LONG_EVEN])
        self.assertEqual([top_rank(machine, bits) for bits in (1, 2, 4, 5, 7)],
                         [0, LONG_ODD, LONG_EVEN, LONG_EVEN, LONG_ODD])
        self.assertEqual([is_good(machine, bits) for bits in (1, 2, 4, 5, 7)], [True, False, True, True, False])

    def test_all_sets(self):
        for machine in machines():
            for bits in list(all_sets(machine))[1:]:
                self.assertEqual(top_rank(machine, bits), top_by_search(machine, bits))
                self.assertIs(is_good(machine, bits), good_by_search(machine, bits))

    def test_the_set_without_rooms_is_refused(self):
        for machine in (Machine([[0]], [0]), split_machine(), nested_machine([1] * 8)):
            with self.assertRaises(NoLoop):
                top_rank(machine, 0)
            with self.assertRaises(NoLoop):
                is_good(machine, 0)


class Rounds(unittest.TestCase):
    """Points 6 and 35."""

    def test_a_loop_of_one_room(self):
        self.assertEqual(round_in(Machine([[0]], [0]), 1, 0), "a")
        self.assertEqual(round_in(Machine([[1, 1, 0], [0, 0, 1]], [0, 0]), 1, 0), "c")
        machine = split_machine()
        self.assertTrue(is_round_of(machine, 3, round_in(machine, 8, 3), 8))
        self.assertEqual(len(round_in(machine, 8, 3)), 1)

    def test_rounds_of_all_loops_from_all_their_rooms(self):
        for machine in machines():
            for bits in loops_by_search(machine):
                rooms = set_of(bits)
                for room in rooms:
                    told = round_in(machine, bits, room)
                    self.assertTrue(is_round_of(machine, room, told, bits), (machine.steps, bits, room, told))
                    self.assertLessEqual(len(told), len(rooms) ** 2)

    def test_the_walk_of_a_round_stays_in_the_loop(self):
        for machine in drawn_machines(35, 32):
            for bits in loops_by_search(machine):
                room = min(set_of(bits))
                told = round_in(machine, bits, room)
                self.assertEqual(set(machine.walk(("", told), room)[1]), set_of(bits))
                self.assertIs(machine.lets(("", told), room), is_good(machine, bits))

    def test_a_loop_of_eight_rooms_that_must_be_gone_along_again_and_again(self):
        """Each room but 0 leads on or back to 0, and only room 0 leads to several others."""
        machine = Machine([[1, 2, 3], [4, 0, 0], [5, 0, 0], [6, 0, 0], [7, 0, 0], [0] * 3, [0] * 3, [0] * 3], [0] * 8)
        for room in range(8):
            told = round_in(machine, 255, room)
            self.assertTrue(is_round_of(machine, room, told, 255))
            self.assertLessEqual(len(told), 64)

    def test_what_is_no_loop_is_refused(self):
        for machine in machines():
            loops = loops_by_search(machine)
            for bits in some_sets(machine):
                if bits not in loops:
                    for room in range(machine.many):
                        with self.assertRaises(NoLoop):
                            round_in(machine, bits, room)

    def test_a_room_that_is_not_in_the_loop_is_refused(self):
        for machine in machines():
            for bits in loops_by_search(machine)[:12]:
                for room in range(machine.many):
                    if room not in set_of(bits):
                        with self.assertRaises(NoLoop):
                            round_in(machine, bits, room)

    def test_the_set_without_rooms_is_refused(self):
        with self.assertRaises(NoLoop):
            round_in(Machine([[0]], [0]), 0, 0)

    def test_the_same_round_each_time(self):
        for machine in drawn_machines(2, 24):
            twin = Machine(machine.steps, machine.ranks)
            for bits in loops_by_search(machine)[:20]:
                room = max(set_of(bits))
                told = round_in(machine, bits, room)
                self.assertEqual(round_in(machine, bits, room), told)
                self.assertEqual(round_in(twin, bits, room), told)


class Ways(unittest.TestCase):
    """Point 36."""

    def ways_by_search(self, machine, allowed, room):
        """The first of the shortest words to each room, by going on with all words, shorter ones first."""
        found = {}
        words = [("", room)] if room in set_of(allowed) else []
        for size in range(machine.many):
            for word, place in words:
                found.setdefault(place, word)
            longer = []
            for word, place in words:
                for letter, goal in zip("abc", machine.steps[place]):
                    if goal in set_of(allowed):
                        longer.append((word + letter, goal))
            words = longer
        return found

    def test_ways(self):
        machine = nested_machine([0] * 8)
        self.assertEqual(way_in(machine, 255, 0, 7), "aaaaaaa")
        self.assertEqual(way_in(machine, 255, 5, 2), "baa")
        self.assertEqual(way_in(machine, 255, 7, 0), "a")
        self.assertEqual(way_in(machine, 255, 6, 0), "b")

    def test_a_way_from_a_room_to_itself(self):
        machine = split_machine()
        for room in range(8):
            self.assertEqual(way_in(machine, 255, room, room), "")
            self.assertEqual(way_in(machine, 1 << room, room, room), "")
            self.assertIsNone(way_in(machine, 255 - (1 << room), room, room))
            self.assertIsNone(way_in(machine, 0, room, room))

    def test_rooms_that_are_not_allowed(self):
        machine = Machine([[1, 2], [3, 3], [2, 4], [3, 3], [3, 3]], [0] * 5)
        self.assertEqual(way_in(machine, 31, 0, 3), "aa")
        self.assertEqual(way_in(machine, bits_of([0, 2, 3, 4]), 0, 3), "bba")
        self.assertIsNone(way_in(machine, bits_of([0, 2, 3]), 0, 3))
        self.assertIsNone(way_in(machine, bits_of([1, 2, 3, 4]), 0, 3))
        self.assertIsNone(way_in(machine, bits_of([0, 1, 2, 4]), 0, 3))
        self.assertIsNone(way_in(machine, bits_of([1, 2, 4]), 0, 3))
        self.assertIsNone(way_in(machine, 31, 3, 0))

    def test_the_first_of_the_shortest_by_alphabet(self):
        machine = Machine([[0, 2, 1], [3, 3, 3], [2, 3, 3], [3, 3, 3]], [0] * 4)
        self.assertEqual(way_in(machine, 15, 0, 3), "bb")
        self.assertEqual(way_in(machine, bits_of([0, 1, 3]), 0, 3), "ca")

    def test_against_a_search(self):
        for machine in machines():
            for allowed in some_sets(machine, 4):
                for room in range(machine.many):
                    found = self.ways_by_search(machine, allowed, room)
                    for goal in range(machine.many):
                        self.assertEqual(way_in(machine, allowed, room, goal), found.get(goal),
                                         (machine.steps, allowed, room, goal))

    def test_each_way_stays_within_the_allowed_rooms(self):
        for machine in drawn_machines(36, 24):
            for allowed in some_sets(machine):
                for room in set_of(allowed):
                    for goal in range(machine.many):
                        told = way_in(machine, allowed, room, goal)
                        if told is not None:
                            self.assertEqual(machine.after(room, told), goal)
                            self.assertLessEqual(set(rooms_come_to(machine, room, told)), set_of(allowed))


class Found(unittest.TestCase):
    """Point 37."""

    def found_by_search(self, machine, loops, allowed, wanted):
        sort = [loop for loop in loops if within(loop, allowed) and good_by_search(machine, loop) == wanted]
        if not sort:
            return None
        least = min([top_by_search(machine, loop) for loop in sort])
        low = bits_by_sum([room for room in set_of(allowed) if machine.ranks[room] <= least])
        inside = [loop for loop in loops if within(loop, low)]
        parts = [loop for loop in inside if not [other for other in inside if other != loop and within(loop, other)]]
        topped = [part for part in parts if least in [machine.ranks[room] for room in set_of(part)]]
        return min(topped, key=lambda bits: min(set_of(bits)))

    def test_the_least_rank_first(self):
        machine = nested_machine([4, 5, 2, 6, 1, 3], 3)
        self.assertEqual(rooms_of(loop_found(machine, 63, True)), [2])
        self.assertEqual(rooms_of(loop_found(machine, 63, False)), [4])
        self.assertEqual(rooms_of(loop_found(machine, bits_of([0, 1, 3, 5]), True)), [0])
        self.assertEqual(rooms_of(loop_found(machine, bits_of([0, 1, 3, 5]), False)), [5])

    def test_the_whole_part_and_not_a_smaller_loop(self):
        machine = Machine([[1, 0], [0, 1], [2, 2]], [2, 1, 0])
        self.assertEqual(rooms_of(loop_found(machine, 3, True)), [0, 1])
        self.assertEqual(rooms_of(loop_found(machine, 7, True)), [2])
        self.assertEqual(rooms_of(loop_found(machine, 7, False)), [1])

    def test_the_first_of_several_parts(self):
        machine = Machine([[0], [1], [2], [3]], [1, 2, 2, 1])
        self.assertEqual(rooms_of(loop_found(machine, 15, True)), [1])
        self.assertEqual(rooms_of(loop_found(machine, 12, True)), [2])
        self.assertEqual(rooms_of(loop_found(machine, 15, False)), [0])
        self.assertEqual(rooms_of(loop_found(machine, 14, False)), [3])

    def test_a_room_of_the_least_rank_that_is_on_no_loop(self):
        machine = Machine([[1, 1], [1, 1]], [0, 2])
        self.assertEqual(loop_found(machine, 3, True), 2)
        self.assertIsNone(loop_found(machine, 3, False))
        self.assertIsNone(loop_found(machine, 1, True))

    def test_none_where_there_is_none(self):
        for wanted in (True, False):
            self.assertIsNone(loop_found(split_machine(), 0, wanted))
            self.assertIsNone(loop_found(split_machine(), bits_of([0, 4, 5, 7]), wanted))
        self.assertIsNone(loop_found(nested_machine([1] * 8), 255, True))
        self.assertIsNone(loop_found(nested_machine([0] * 8), 255, False))
        self.assertEqual(loop_found(nested_machine([1] * 8), 255, False), 255)
        self.assertEqual(loop_found(nested_machine([0] * 8), 255, True), 255)

    def test_long_ranks(self):
        machine = nested_machine([LONG_ODD, LONG_EVEN])
        self.assertEqual(loop_found(machine, 3, False), 3)
        self.assertEqual(loop_found(machine, 3, True), 2)
        self.assertIsNone(loop_found(machine, 1, True))

    def test_against_a_search(self):
        for machine in machines():
            loops = loops_by_search(machine)
            for allowed in some_sets(machine):
                for wanted in (True, False):
                    told = loop_found(machine, allowed, wanted)
                    self.assertEqual(told, self.found_by_search(machine, loops, allowed, wanted),
                                     (machine.steps, machine.ranks, allowed, wanted))
                    if told is not None:
                        self.assertIs(is_loop(machine, told), True)
                        self.assertIs(is_good(machine, told), wanted)


class DeadAndSure(unittest.TestCase):
    """Point 38."""

    def test_rooms(self):
        machine = split_machine()
        self.assertEqual(rooms_of(dead_rooms(machine)), [3])
        self.assertEqual(rooms_of(sure_rooms(machine)), [1, 2])

    def test_rooms_that_cannot_be_come_to_count_too(self):
        machine = Machine([[0, 0], [1, 0], [2, 2], [2, 3]], [0, 2, 1, 1])
        self.assertEqual(rooms_of(dead_rooms(machine)), [2, 3])
        self.assertEqual(rooms_of(sure_rooms(machine)), [0, 1])

    def test_a_machine_without_a_good_loop_and_one_without_a_bad_one(self):
        for ranks in ([1], [1] * 8, [3, 5, 7], [LONG_ODD]):
            machine = nested_machine(ranks)
            everywhere = 2 ** len(ranks) - 1
            self.assertEqual((dead_rooms(machine), sure_rooms(machine)), (everywhere, 0))
            self.assertEqual((dead_rooms(machine.opposite()), sure_rooms(machine.opposite())), (0, everywhere))

    def test_a_rank_on_no_loop_changes_nothing(self):
        machine = Machine([[1, 1], [1, 1]], [2, 1])
        self.assertEqual((dead_rooms(machine), sure_rooms(machine)), (3, 0))

    def test_a_loop_of_the_other_sort_within_counts(self):
        machine = Machine([[1, 0], [0, 1]], [2, 1])
        self.assertEqual((dead_rooms(machine), sure_rooms(machine)), (0, 0))
        machine = Machine([[1], [0]], [2, 1])
        self.assertEqual((dead_rooms(machine), sure_rooms(machine)), (0, 3))

    def test_against_all_words(self):
        """In a machine of two rooms each loop has a round of at most four letters, behind at most one letter."""
        for machine in small_machines():
            words = tellings_up_to(machine.letters, 1, 4)
            let = [[machine.lets(word, room) for word in words] for room in range(machine.many)]
            self.assertEqual(set_of(dead_rooms(machine)), {room for room, row in enumerate(let) if not any(row)})
            self.assertEqual(set_of(sure_rooms(machine)), {room for room, row in enumerate(let) if all(row)})

    def test_against_all_loops(self):
        for machine in machines() + drawn_machines(38, 64):
            loops = loops_by_search(machine)
            dead = []
            sure = []
            for room in range(machine.many):
                seen = [good_by_search(machine, loop) for loop in loops if set_of(loop) <= seen_by_search(machine, room)]
                if not any(seen):
                    dead.append(room)
                if all(seen):
                    sure.append(room)
            self.assertEqual(dead_rooms(machine), bits_by_sum(dead), (machine.steps, machine.ranks))
            self.assertEqual(sure_rooms(machine), bits_by_sum(sure), (machine.steps, machine.ranks))

    def test_words_from_dead_and_sure_rooms(self):
        for machine in drawn_machines(39, 32):
            for word in tellings_up_to(machine.letters, 1, 2):
                for room in set_of(dead_rooms(machine)):
                    self.assertIs(machine.lets(word, room), False)
                for room in set_of(sure_rooms(machine)):
                    self.assertIs(machine.lets(word, room), True)


class Unchanged(unittest.TestCase):
    """Point 2."""

    def test_no_machine_is_changed(self):
        machine = split_machine()
        for ask in (
            lambda: seen_from(machine, 0), lambda: reaching(machine, 8), lambda: loop_parts(machine, 255),
            lambda: is_loop(machine, 6), lambda: top_rank(machine, 6), lambda: is_good(machine, 6),
            lambda: round_in(machine, 6, 1), lambda: way_in(machine, 255, 0, 3),
            lambda: loop_found(machine, 255, True), lambda: dead_rooms(machine), lambda: sure_rooms(machine),
        ):
            first = ask()
            self.assertEqual(ask(), first)
            self.assertEqual((machine.steps, machine.ranks), (split_machine().steps, split_machine().ranks))

    def test_what_is_refused_changes_nothing(self):
        machine = split_machine()
        for ask in (lambda: top_rank(machine, 0), lambda: is_good(machine, 0), lambda: round_in(machine, 5, 0),
                    lambda: round_in(machine, 6, 0)):
            self.assertRaises(NoLoop, ask)
            self.assertRaises(NoLoop, ask)
            self.assertEqual((machine.steps, machine.ranks), (split_machine().steps, split_machine().ranks))


if __name__ == "__main__":
    unittest.main()
