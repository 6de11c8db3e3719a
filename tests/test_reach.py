"""Points 7, 28 and 29: the rooms that can be come to, and machines trimmed to them."""

import unittest

from helpers import drawn_machines, nested_machine, seen_by_search, small_machines, split_machine, tellings_up_to
from helpers import words_up_to
from looprank.machines import Machine
from looprank.reach import rooms_reached, trimmed


def machines():
    return small_machines() + drawn_machines(28, 96)


def fronts_by_search(machine):
    """For each room the first of all words, shorter ones first and then by alphabet, that leads to it."""
    found = []
    for word in words_up_to("abc"[:machine.letters], machine.many - 1):
        room = machine.after(0, word)
        if room not in [entry[0] for entry in found]:
            found.append((room, word))
    return found


class Reached(unittest.TestCase):
    """Point 28."""

    def test_one_room(self):
        for letters in (1, 2, 3):
            self.assertEqual(rooms_reached(Machine([[0] * letters], [5])), [(0, "")])

    def test_letters_in_their_order(self):
        machine = Machine([[0, 2, 1], [3, 0, 0], [3, 3, 0], [0, 0, 0]], [0, 0, 0, 0])
        self.assertEqual(rooms_reached(machine), [(0, ""), (2, "b"), (1, "c"), (3, "ba")])

    def test_the_list_goes_by_the_fronts_and_not_by_the_rooms(self):
        machine = Machine([[3, 2], [1, 1], [1, 2], [0, 3]], [0, 0, 0, 0])
        self.assertEqual(rooms_reached(machine), [(0, ""), (3, "a"), (2, "b"), (1, "ba")])

    def test_eight_rooms_one_behind_the_other(self):
        self.assertEqual(rooms_reached(nested_machine([0] * 8)), [(room, "a" * room) for room in range(8)])
        backward = Machine([[7], [0], [1], [2], [3], [4], [5], [6]], [0] * 8)
        self.assertEqual(rooms_reached(backward), [(0, "")] + [(8 - size, "a" * size) for size in range(1, 8)])

    def test_rooms_that_no_word_leads_to(self):
        self.assertEqual(rooms_reached(split_machine()), [(0, ""), (1, "a"), (4, "b"), (2, "aa"), (3, "ba")])
        self.assertEqual(rooms_reached(Machine([[0, 0], [0, 1]], [0, 1])), [(0, "")])
        self.assertEqual(rooms_reached(Machine([[0, 0, 0]] * 8, [0] * 8)), [(0, "")])

    def test_each_front_is_the_first_of_the_shortest_words(self):
        for machine in machines():
            with self.subTest(steps=machine.steps):
                self.assertEqual(rooms_reached(machine), fronts_by_search(machine))

    def test_tuples_in_a_list(self):
        told = rooms_reached(split_machine())
        self.assertIsInstance(told, list)
        for entry in told:
            self.assertIsInstance(entry, tuple)

    def test_the_list_is_the_askers_own(self):
        machine = split_machine()
        told = rooms_reached(machine)
        kept = list(told)
        told.clear()
        self.assertEqual(rooms_reached(machine), kept)
        rooms_reached(machine).append((7, "b"))
        self.assertEqual(rooms_reached(machine), kept)
        self.assertEqual(rooms_reached(split_machine()), kept)
        self.assertEqual((machine.steps, machine.ranks), (split_machine().steps, split_machine().ranks))


class Trimmed(unittest.TestCase):
    """Points 7 and 29."""

    def same(self, machine, steps, ranks):
        self.assertIsInstance(machine, Machine)
        self.assertEqual((machine.steps, machine.ranks), (steps, ranks))
        self.assertEqual((machine.many, machine.letters), (len(steps), len(steps[0])))

    def test_rooms_are_left_out_and_numbered_anew(self):
        self.same(trimmed(split_machine()), [[1, 2], [3, 3], [4, 1], [1, 1], [4, 4]], [5, 1, 9, 2, 3])
        self.same(trimmed(Machine([[2], [1], [0]], [4, 5, 6])), [[1], [0]], [4, 6])

    def test_rooms_are_numbered_anew_where_all_can_be_come_to(self):
        self.same(trimmed(Machine([[2, 1], [1, 1], [2, 0]], [4, 5, 6])), [[1, 2], [1, 0], [2, 2]], [4, 6, 5])

    def test_nothing_to_trim(self):
        for letters in (1, 2, 3):
            self.same(trimmed(Machine([[0] * letters], [3])), [[0] * letters], [3])
        machine = nested_machine([0, 1, 2, 3, 4, 5, 6, 7])
        self.same(trimmed(machine), machine.steps, machine.ranks)

    def test_long_ranks_stay(self):
        self.same(trimmed(Machine([[1], [1], [2]], [10 ** 30 - 1, 10 ** 30 - 2, 3])),
                  [[1], [1]], [10 ** 30 - 1, 10 ** 30 - 2])

    def test_steps_and_ranks_are_those_of_the_rooms(self):
        for machine in machines():
            told = [room for room, front in rooms_reached(machine)]
            small = trimmed(machine)
            self.assertEqual(small.many, len(told))
            self.assertEqual(small.ranks, [machine.ranks[room] for room in told])
            for place, room in enumerate(told):
                self.assertEqual([told[goal] for goal in small.steps[place]], machine.steps[room])

    def test_all_rooms_of_a_trimmed_machine_can_be_come_to_in_their_order(self):
        for machine in machines():
            small = trimmed(machine)
            self.assertEqual(len(seen_by_search(small, 0)), small.many)
            self.assertEqual([room for room, front in rooms_reached(small)], list(range(small.many)))
            self.assertEqual([front for room, front in rooms_reached(small)],
                             [front for room, front in rooms_reached(machine)])
            again = trimmed(small)
            self.assertEqual((again.steps, again.ranks), (small.steps, small.ranks))

    def test_the_same_words_are_let_by(self):
        for machine in drawn_machines(29, 64):
            small = trimmed(machine)
            for word in tellings_up_to(machine.letters, 2, 3):
                self.assertIs(small.lets(word), machine.lets(word), (machine.steps, word))

    def test_rooms_that_cannot_be_come_to_change_nothing(self):
        """Point 7: other ranks and steps for these rooms leave the trimmed machine and the words as they are."""
        for machine in drawn_machines(7, 64):
            seen = seen_by_search(machine, 0)
            steps = [row if room in seen else [0] * machine.letters for room, row in enumerate(machine.steps)]
            ranks = [rank if room in seen else rank + 7 for room, rank in enumerate(machine.ranks)]
            other = Machine(steps, ranks)
            self.same(trimmed(other), trimmed(machine).steps, trimmed(machine).ranks)
            for word in tellings_up_to(machine.letters, 1, 3):
                self.assertIs(other.lets(word), machine.lets(word))

    def test_no_list_is_shared(self):
        machine = nested_machine([0, 1, 2])
        small = trimmed(machine)
        small.steps[0][0] = 0
        small.steps.append([0, 0, 0])
        small.ranks[0] = 9
        self.same(machine, nested_machine([0, 1, 2]).steps, [0, 1, 2])
        self.same(trimmed(machine), nested_machine([0, 1, 2]).steps, [0, 1, 2])


if __name__ == "__main__":
    unittest.main()
