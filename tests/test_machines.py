"""Points 2, 5 and 21 to 25: machines, walks and which words are let by."""

import unittest

from helpers import (
    mixed_machines, odd_things, rooms_again_and_again, rooms_read, small_machines, tellings_up_to, words_up_to,
)
from looprank.errors import NoMachine, NoRoom, NoWord, RankError
from looprank.machines import Machine
from looprank.words import shortest_telling

LONG_ODD = 10 ** 30 - 1
LONG_EVEN = 10 ** 30 - 2


def swing():
    """a stays in its room, b goes to the other one."""
    return Machine([[0, 1], [1, 0]], [1, 2])


def eight():
    """a goes round through all rooms, b back to room 0, c stays."""
    return Machine([[(room + 1) % 8, 0, room] for room in range(8)], [0, 1, 2, 3, 4, 5, 6, 7])


def many_machines():
    return small_machines() + mixed_machines(36)


def words_for(machine):
    if machine.letters == 1:
        return tellings_up_to(1, 3, 4)
    return tellings_up_to(machine.letters, 1, 2) + [("abba", "aba"), ("", "babaa"), ("bb", "abab")]


class Made(unittest.TestCase):
    """Point 21."""

    def test_fields(self):
        machine = Machine([[0, 1, 2], [1, 1, 0], [2, 0, 0]], [5, 0, 7])
        self.assertEqual(machine.steps, [[0, 1, 2], [1, 1, 0], [2, 0, 0]])
        self.assertEqual(machine.ranks, [5, 0, 7])
        self.assertEqual(machine.many, 3)
        self.assertEqual(machine.letters, 3)

    def test_made_by_the_names_of_its_parts(self):
        machine = Machine(steps=[[0, 0]], ranks=[3])
        self.assertEqual((machine.steps, machine.ranks, machine.many, machine.letters), ([[0, 0]], [3], 1, 2))

    def test_all_sizes(self):
        for rooms in range(1, 9):
            for letters in (1, 2, 3):
                steps = [[rooms - 1] * letters for room in range(rooms)]
                machine = Machine(steps, [room for room in range(rooms)])
                self.assertEqual((machine.many, machine.letters), (rooms, letters))
                self.assertEqual(machine.steps, steps)
                self.assertEqual(machine.ranks, list(range(rooms)))

    def test_ranks_of_thirty_figures(self):
        machine = Machine([[0], [1]], [LONG_ODD, LONG_EVEN])
        self.assertEqual(machine.ranks, [LONG_ODD, LONG_EVEN])

    def refuse(self, steps, ranks):
        with self.assertRaises(NoMachine, msg=repr((steps, ranks))):
            Machine(steps, ranks)

    def test_steps_that_are_no_list(self):
        for thing in odd_things() + [0, "", "a", "0", ([0],), ((0,),), {0: [0]}]:
            self.refuse(thing, [0])

    def test_too_few_and_too_many_rooms(self):
        self.refuse([], [])
        self.refuse([], [0])
        self.refuse([[0]] * 9, [0] * 9)
        self.refuse([[0, 0]] * 9, [0] * 8)
        self.refuse([[0]] * 100, [0] * 100)

    def test_rows_that_are_no_lists(self):
        for thing in odd_things() + [0, "", "a", "0", "00", (0, 0), {0: 0}]:
            if thing != [0]:
                self.refuse([thing], [0])
                self.refuse([[0, 0], thing], [0, 0])
                self.refuse([thing, [0, 0]], [0, 0])

    def test_rows_of_no_letter_and_of_too_many(self):
        self.refuse([[]], [0])
        self.refuse([[], []], [0, 0])
        self.refuse([[0, 0, 0, 0]], [0])
        self.refuse([[0] * 4, [0] * 4], [0, 0])

    def test_rows_of_unlike_length(self):
        self.refuse([[0, 1], [0]], [0, 0])
        self.refuse([[0], [0, 1]], [0, 0])
        self.refuse([[0, 1], [0, 1], [0, 1, 2]], [0, 0, 0])
        self.refuse([[0, 1], []], [0, 0])

    def test_steps_to_what_is_no_room(self):
        for thing in odd_things() + [2, 3, 8, "", "a", "0", 1.0]:
            self.refuse([[0, 1], [0, thing]], [0, 0])
            self.refuse([[thing, 1], [0, 1]], [0, 0])
        self.refuse([[1]], [0])
        self.refuse([[True], [0]], [0, 0])
        self.refuse([[0], [False]], [0, 0])

    def test_ranks_that_are_no_list(self):
        for thing in odd_things() + [0, "", "0", (0,), {0: 0}]:
            if thing != [0]:
                self.refuse([[0]], thing)

    def test_too_few_and_too_many_ranks(self):
        self.refuse([[0]], [])
        self.refuse([[0]], [0, 0])
        self.refuse([[0], [1]], [0])
        self.refuse([[0], [1]], [0, 1, 2])

    def test_ranks_that_are_no_whole_numbers_from_nought_on(self):
        for thing in odd_things() + ["", "0", "a", 1.0, -LONG_ODD, (0,)]:
            if thing != 10 ** 30:
                self.refuse([[0], [1]], [0, thing])
                self.refuse([[0], [1]], [thing, 0])

    def test_faults_in_both(self):
        self.refuse(None, None)
        self.refuse([[1]], [-1])
        self.refuse([[True]], [True])

    def test_a_list_that_holds_itself(self):
        steps = []
        steps.append(steps)
        self.refuse(steps, [0])


class Copies(unittest.TestCase):
    """Point 2: what is handed in and what is given back."""

    def test_lists_handed_in_may_be_changed_behind_it(self):
        steps = [[0, 1], [1, 0]]
        ranks = [1, 2]
        machine = Machine(steps, ranks)
        steps[0][1] = 0
        steps[1].append(0)
        steps.append([0, 0])
        ranks[0] = 9
        ranks.append(4)
        self.assertEqual(machine.steps, [[0, 1], [1, 0]])
        self.assertEqual(machine.ranks, [1, 2])
        self.assertEqual((machine.many, machine.letters), (2, 2))
        self.assertEqual(machine.walk(("", "b")), ([], [0, 1]))
        self.assertIs(machine.lets(("", "b")), True)

    def test_lists_handed_in_are_not_changed(self):
        steps = [[0, 1], [1, 0]]
        ranks = [1, 2]
        machine = Machine(steps, ranks)
        machine.walk(("ab", "ba"))
        machine.lets(("ab", "ba"), 1)
        machine.opposite()
        self.assertEqual((steps, ranks), ([[0, 1], [1, 0]], [1, 2]))

    def test_one_row_handed_in_for_several_rooms_is_kept_apart(self):
        row = [0, 1]
        machine = Machine([row, row], [0, 0])
        self.assertEqual(machine.steps, [[0, 1], [0, 1]])
        self.assertIsNot(machine.steps[0], machine.steps[1])

    def test_a_machine_made_of_another_ones_lists_shares_none(self):
        first = swing()
        second = Machine(first.steps, first.ranks)
        self.assertIsNot(first.steps, second.steps)
        self.assertIsNot(first.steps[0], second.steps[0])
        self.assertIsNot(first.ranks, second.ranks)

    def test_the_opposite_shares_no_list(self):
        machine = swing()
        other = machine.opposite()
        other.steps[0][0] = 1
        other.steps.append([0, 0])
        other.ranks[0] = 50
        self.assertEqual((machine.steps, machine.ranks), ([[0, 1], [1, 0]], [1, 2]))
        self.assertEqual(machine.opposite().steps, [[0, 1], [1, 0]])
        self.assertEqual(machine.opposite().ranks, [2, 3])

    def test_walks_given_back_may_be_changed(self):
        machine = swing()
        way, ring = machine.walk(("ab", "b"))
        way.append(7)
        ring.clear()
        self.assertEqual(machine.walk(("ab", "b")), ([0, 0], [1, 0]))
        self.assertEqual((machine.steps, machine.ranks), ([[0, 1], [1, 0]], [1, 2]))

    def test_way_and_ring_are_two_lists(self):
        way, ring = Machine([[0]], [0]).walk(("a", "a"))
        self.assertIsNot(way, ring)
        way.append(5)
        self.assertEqual(ring, [0])

    def test_what_is_refused_changes_nothing(self):
        machine = swing()
        for ask in (lambda: machine.goes(5, "a"), lambda: machine.after(0, "abc"), lambda: machine.walk(("b", "")),
                    lambda: machine.lets(("b", "a"), 2)):
            with self.assertRaises(RankError):
                ask()
        self.assertEqual((machine.steps, machine.ranks), ([[0, 1], [1, 0]], [1, 2]))
        self.assertEqual((machine.many, machine.letters), (2, 2))
        self.assertEqual(machine.walk(("", "b")), ([], [0, 1]))

    def test_the_same_answer_each_time_and_of_a_like_machine(self):
        for machine in mixed_machines(12):
            twin = Machine(machine.steps, machine.ranks)
            for word in words_for(machine)[::3]:
                self.assertEqual(machine.walk(word), machine.walk(word))
                self.assertEqual(machine.walk(word), twin.walk(word))
                self.assertEqual(machine.lets(word, 2), twin.lets(word, 2))


class Steps(unittest.TestCase):
    """Point 22."""

    def test_letters_lead_as_the_steps_tell(self):
        for machine in many_machines():
            for room in range(machine.many):
                for number, letter in enumerate("abc"[:machine.letters]):
                    self.assertEqual(machine.goes(room, letter), machine.steps[room][number])

    def test_words_lead_letter_by_letter(self):
        for machine in many_machines():
            for room in range(machine.many):
                for word in words_up_to("abc"[:machine.letters], 3):
                    wanted = room
                    for letter in word:
                        wanted = machine.goes(wanted, letter)
                    self.assertEqual(machine.after(room, word), wanted)

    def test_the_empty_word_leads_to_the_room_itself(self):
        for room in range(8):
            self.assertEqual(eight().after(room, ""), room)

    def test_long_words(self):
        self.assertEqual(eight().after(0, "a" * 5000), 0)
        self.assertEqual(eight().after(3, "a" * 4999), 2)
        self.assertEqual(eight().after(5, "b" + "c" * 4990 + "aaaaaaaaa"), 1)

    def test_asked_by_the_names_of_the_arguments(self):
        self.assertEqual(swing().goes(room=1, letter="b"), 0)
        self.assertEqual(swing().after(room=1, text="bb"), 1)

    def test_no_rooms(self):
        for thing in odd_things() + [2, 8, "", "a", "0", (0, 0)]:
            with self.assertRaises(NoRoom, msg=repr(thing)):
                swing().goes(thing, "a")
            with self.assertRaises(NoRoom, msg=repr(thing)):
                swing().after(thing, "ab")
            with self.assertRaises(NoRoom, msg=repr(thing)):
                swing().after(thing, "")

    def test_no_letters(self):
        for thing in odd_things() + [0, 1, "", "c", "ab", "aa", "A", "d", " ", "a ", "0", ("", "a")]:
            with self.assertRaises(NoWord, msg=repr(thing)):
                swing().goes(0, thing)

    def test_letters_beyond_the_machines(self):
        for letters in (1, 2, 3):
            machine = Machine([[0] * letters], [0])
            for number, letter in enumerate("abcd"):
                if number < letters:
                    self.assertEqual(machine.goes(0, letter), 0)
                    self.assertEqual(machine.after(0, "a" + letter), 0)
                else:
                    with self.assertRaises(NoWord):
                        machine.goes(0, letter)
                    with self.assertRaises(NoWord):
                        machine.after(0, "a" + letter)

    def test_no_words(self):
        for thing in odd_things() + [0, 1, "c", "abc", "aB", "ab ", "a b", "(a)", ("", "a"), ("a", "b"), ["a", "b"]]:
            with self.assertRaises(NoWord, msg=repr(thing)):
                swing().after(0, thing)

    def test_no_room_is_told_ahead_of_no_word(self):
        for room in (None, True, -1, 2, "a", [], ()):
            for thing in (None, 0, "c", "", ["a"], ("", "")):
                with self.assertRaises(NoRoom):
                    swing().goes(room, thing)
                with self.assertRaises(NoRoom):
                    swing().after(room, thing)


class Walks(unittest.TestCase):
    """Points 5 and 23."""

    def test_walks_of_two_rooms(self):
        machine = swing()
        self.assertEqual(machine.walk(("", "a")), ([], [0]))
        self.assertEqual(machine.walk(("", "b")), ([], [0, 1]))
        self.assertEqual(machine.walk(("b", "a")), ([0], [1]))
        self.assertEqual(machine.walk(("b", "a"), 1), ([1], [0]))
        self.assertEqual(machine.walk(("abba", "b"), 1), ([1, 1, 0, 1], [1, 0]))

    def test_walks_hang_on_the_telling(self):
        machine = swing()
        self.assertEqual(machine.walk(("", "ab")), ([], [0, 0, 1, 1]))
        self.assertEqual(machine.walk(("", "abab")), ([], [0, 0, 1, 1]))
        self.assertEqual(machine.walk(("ab", "ab")), ([0, 0], [1, 1, 0, 0]))
        self.assertEqual(machine.walk(("a", "ba")), ([0], [0, 1, 1, 0]))

    def test_whole_rounds_on_the_way(self):
        machine = Machine([[1], [2], [1]], [0, 0, 0])
        self.assertEqual(machine.walk(("", "a")), ([0], [1, 2]))
        self.assertEqual(machine.walk(("a", "a")), ([0], [1, 2]))
        self.assertEqual(machine.walk(("", "aa")), ([0, 1], [2, 1]))
        self.assertEqual(machine.walk(("", "aaa")), ([0, 1, 2], [1, 2, 1, 2, 1, 2]))

    def test_a_room_met_within_a_round_does_not_end_the_walk(self):
        machine = Machine([[1, 0], [0, 1]], [0, 0])
        self.assertEqual(machine.walk(("", "aab")), ([], [0, 1, 0]))
        self.assertEqual(machine.walk(("", "aba")), ([], [0, 1, 1]))
        self.assertEqual(machine.walk(("", "aaa")), ([], [0, 1, 0, 1, 0, 1]))

    def test_one_room(self):
        for letters in (1, 2, 3):
            machine = Machine([[0] * letters], [0])
            self.assertEqual(machine.walk(("", "a")), ([], [0]))
            self.assertEqual(machine.walk(("a" * 5000, "a" * 2000)), ([0] * 5000, [0] * 2000))

    def test_the_room_that_is_left_out_is_room_nought(self):
        for machine in many_machines():
            for word in words_for(machine)[::2]:
                self.assertEqual(machine.walk(word), machine.walk(word, 0))
                self.assertEqual(machine.walk(word), machine.walk(word=word, room=0))

    def test_walks_as_told(self):
        for machine in many_machines():
            for word in words_for(machine):
                for room in range(machine.many):
                    self.check_walk(machine, word, room)

    def check_walk(self, machine, word, room):
        told = machine.walk(word, room)
        self.assertIs(type(told), tuple)
        way, ring = told
        self.assertEqual([type(way), type(ring)], [list, list])
        begin, size = len(word[0]), len(word[1])
        read = rooms_read(machine, word, room, begin + size * (machine.many + 1) + 1)
        ahead = read[begin::size]
        last = min(place for place in range(len(ahead)) if ahead[place] in ahead[:place])
        first = ahead.index(ahead[last])
        self.assertEqual(way, read[:begin + first * size], (machine.steps, word, room))
        self.assertEqual(ring, read[begin + first * size:begin + last * size], (machine.steps, word, room))

    def test_long_walks_through_eight_rooms(self):
        way, ring = eight().walk(("a" * 5000, "a" * 2000), 3)
        self.assertEqual(way, [(3 + place) % 8 for place in range(5000)])
        self.assertEqual(ring, [(3 + place) % 8 for place in range(2000)])
        way, ring = eight().walk(("a" * 4999, "a" * 1999))
        self.assertEqual(way, [place % 8 for place in range(4999)])
        self.assertEqual(ring, [(7 + place) % 8 for place in range(8 * 1999)])

    def test_no_rooms(self):
        for thing in odd_things() + [2, 8, "", "a", "0"]:
            for ask in (swing().walk, swing().lets):
                with self.assertRaises(NoRoom, msg=repr(thing)):
                    ask(("", "a"), thing)
                with self.assertRaises(NoRoom, msg=repr(thing)):
                    ask(("", "a"), room=thing)

    def test_no_endless_words(self):
        for thing in odd_things() + [
            0, 1, "", "a", "ab", "a(b)", ("", ""), ("a", ""), ("", "c"), ("c", "a"), ("a", "abca"), ("a", "b", "a"),
            ["a", "b"], ("a", None), (None, "a"), ("a", ["b"]), (["a"], "b"), ("A", "a"), ("", "a "), ("a", 0), (True, "a"),
        ]:
            for ask in (swing().walk, swing().lets):
                with self.assertRaises(NoWord, msg=repr(thing)):
                    ask(thing)
                with self.assertRaises(NoWord, msg=repr(thing)):
                    ask(thing, 1)

    def test_letters_beyond_the_machines(self):
        for letters in (1, 2):
            machine = Machine([[0] * letters], [0])
            beyond = "abc"[letters]
            for word in [("", beyond), (beyond, "a"), ("a", "a" + beyond), ("a" * 4999 + beyond, "a")]:
                for ask in (machine.walk, machine.lets):
                    with self.assertRaises(NoWord):
                        ask(word)

    def test_no_room_is_told_ahead_of_no_word(self):
        for room in (None, True, False, -1, 2, "0", [], ()):
            for thing in (None, 0, "a", ("", ""), ["", "a"], ("", "c")):
                for ask in (swing().walk, swing().lets):
                    with self.assertRaises(NoRoom):
                        ask(thing, room)


class LetBy(unittest.TestCase):
    """Points 5 and 24."""

    def test_two_rooms(self):
        machine = swing()
        self.assertIs(machine.lets(("", "a")), False)
        self.assertIs(machine.lets(("", "b")), True)
        self.assertIs(machine.lets(("b", "a")), True)
        self.assertIs(machine.lets(("b", "a"), 1), False)
        self.assertIs(machine.lets(("", "a"), room=1), True)

    def test_the_greatest_rank_that_comes_again_and_again(self):
        for machine in many_machines():
            for word in words_for(machine):
                for room in range(machine.many):
                    ranks = [machine.ranks[place] for place in rooms_again_and_again(machine, word, room)]
                    self.assertIs(machine.lets(word, room), max(ranks) % 2 == 0, (machine.steps, word, room))

    def test_rooms_of_the_way_do_not_count(self):
        machine = Machine([[1], [2], [1]], [9, 0, 2])
        self.assertIs(machine.lets(("", "a")), True)
        machine = Machine([[1], [2], [1]], [8, 0, 1])
        self.assertIs(machine.lets(("", "aa")), False)

    def test_the_rooms_within_a_round_count(self):
        machine = Machine([[1], [0]], [0, 1])
        self.assertIs(machine.lets(("", "aa")), False)
        machine = Machine([[1], [0]], [1, 2])
        self.assertIs(machine.lets(("", "aa")), True)

    def test_the_room_that_is_left_out_is_room_nought(self):
        for machine in many_machines():
            for word in words_for(machine)[::3]:
                self.assertIs(machine.lets(word), machine.lets(word=word, room=0))

    def test_all_tellings_are_let_by_alike(self):
        for machine in many_machines():
            for word in words_for(machine)[::2]:
                beginning, cycle = shortest_telling(word)
                tellings = [(beginning + cycle, cycle), (beginning, cycle * 3), (beginning + cycle * 2, cycle * 2),
                            (beginning + cycle[0], cycle[1:] + cycle[0]), word]
                for room in range(machine.many):
                    wanted = machine.lets((beginning, cycle), room)
                    for telling in tellings:
                        self.assertIs(machine.lets(telling, room), wanted, (machine.steps, telling, room))

    def test_ranks_of_thirty_figures(self):
        machine = Machine([[0, 1], [1, 0]], [LONG_EVEN, LONG_ODD])
        self.assertIs(machine.lets(("", "a")), True)
        self.assertIs(machine.lets(("b", "a")), False)
        self.assertIs(machine.lets(("", "b")), False)
        self.assertIs(machine.lets(("", "ab")), False)

    def test_long_words(self):
        self.assertIs(eight().lets(("a" * 5000, "a" * 1999)), False)
        self.assertIs(eight().lets(("a" * 4998, "c" * 2000)), True)
        self.assertIs(eight().lets(("a" * 4999, "c" * 2000)), False)
        self.assertIs(eight().lets(("a" * 5000, "b" * 1993 + "aaaaaab")), True)


class Opposites(unittest.TestCase):
    """Point 25."""

    def test_steps_and_ranks(self):
        other = swing().opposite()
        self.assertIsInstance(other, Machine)
        self.assertEqual((other.steps, other.ranks), ([[0, 1], [1, 0]], [2, 3]))
        self.assertEqual((other.many, other.letters), (2, 2))

    def test_ranks_of_thirty_figures(self):
        other = Machine([[0]], [LONG_ODD]).opposite()
        self.assertEqual(other.ranks, [10 ** 30])
        self.assertIs(other.lets(("", "a")), True)
        self.assertEqual(other.opposite().ranks, [10 ** 30 + 1])

    def test_just_the_other_words_are_let_by_from_each_room(self):
        for machine in many_machines():
            other = machine.opposite()
            self.assertEqual(other.steps, machine.steps)
            self.assertEqual(other.ranks, [rank + 1 for rank in machine.ranks])
            for word in words_for(machine)[::2]:
                for room in range(machine.many):
                    self.assertIs(other.lets(word, room), not machine.lets(word, room))


if __name__ == "__main__":
    unittest.main()
