"""Points 7, 8 and 71 to 76: the smallest form of settled machines."""

import unittest
from random import Random

from helpers import (
    bits_by_sum, drawn_machines, good_by_search, is_settled_by_search, layered_machines, loops_by_search, loops_in,
    nested_machine, pairs_by_search, reached_loops, rooms_come_to, seen_by_search, set_of, settled_machines, shuffled,
    small_machines, split_machine, tellings_up_to, unfolded, words_up_to,
)
from looprank.errors import NotSettled
from looprank.kinds import Settled
from looprank.machines import Machine
from looprank.pairs import is_alike, parting_word
from looprank.reach import rooms_reached
from looprank.smallest import parted_rooms, room_classes, smallest_form
from looprank.words import is_endless

LONG_ODD = 10 ** 30 - 1
LONG_EVEN = 10 ** 30 - 2


def row_of_eight():
    """Each letter leads one room on, a from even rooms stays; the last room stays: all rooms are unlike."""
    steps = [[room if room % 2 == 0 else room + 1, room + 1] for room in range(7)] + [[7, 7]]
    return Machine(steps, [2, 9, 1, 0, 2, 9, 3, 4])


def chain(last):
    """Rooms 0 to 6 are on no loop, the last one stays."""
    return Machine([[min(room + 1, 7)] for room in range(8)], [5, 4, 5, 4, 5, 4, 5, last])


def countdown(letters=2):
    """a leads on, b to the bad end: only where a comes seven times at first a word is let by, so all are unlike."""
    steps = [[min(room + 1, 6), 7, 7][:letters] for room in range(7)] + [[7, 7, 7][:letters]]
    steps[6] = [6] * letters
    return Machine(steps, [1] * 6 + [LONG_EVEN, LONG_ODD])


def edges():
    """One and eight rooms, long ranks, rooms off the loops and out of reach, one class and only classes of one."""
    return [
        Machine([[0]], [0]), Machine([[0]], [1]), Machine([[0, 0, 0]], [LONG_ODD]), Machine([[0, 0]], [LONG_EVEN]),
        nested_machine([4] * 8), nested_machine([5] * 8), nested_machine([LONG_EVEN] * 3, 2), split_machine(),
        split_machine().opposite(), row_of_eight(), chain(2), chain(7), countdown(), countdown(3),
        Machine([[1, 1], [0, 1], [2, 0]], [2, 4, 1]), Machine([[1], [2], [3], [4], [5], [6], [7], [0]], list(range(8))),
        Machine([[1, 2], [0, 0], [1, 1]], [3, 2, 2]), Machine([[0, 1], [1, 1], [2, 3], [3, 2]], [0, 1, 1, 2]),
        Machine([[7, 7]] * 8, [1, 2, 3, 4, 5, 6, 7, 8]),
    ]


def settled():
    small = [machine for machine in small_machines()[::4] if is_settled_by_search(machine)]
    return edges() + small + settled_machines(71, 120) + settled_machines(76, 70, 8, 8)


def unsettled():
    found = [nested_machine([1, 2]), nested_machine([2, 1]), nested_machine(list(range(8))), nested_machine([3, 4, 3]),
             nested_machine([LONG_ODD, LONG_EVEN]), Machine([[1, 1], [1, 2], [2, 1]], [0, 1, 2])]
    drawn = small_machines()[::3] + drawn_machines(72, 80) + layered_machines(73, 60)
    return found + [machine for machine in drawn if not is_settled_by_search(machine)]


def goodness(machine):
    """For each room on a loop that a word leads to whether its loops are good, which are all alike."""
    found = {}
    for loop in reached_loops(machine):
        for room in set_of(loop):
            found[room] = good_by_search(machine, loop)
    return found


def comes_round(machine, pair):
    """Whether a word of one letter at least leads from the pair back to it."""
    firsts = list(zip(machine.steps[pair[0]], machine.steps[pair[1]]))
    return any([pair in pairs_by_search(machine, machine, p, q) for p, q in firsts])


def are_unlike(machine, good, p, q):
    """Whether the rooms let by unlike words: some pair behind them goes round, good on one side and bad on the other.
    In a settled machine the loops through a room are all good or all bad, so the pair's own two rooms tell it."""
    for left, right in pairs_by_search(machine, machine, p, q):
        if left in good and right in good and good[left] != good[right] and comes_round(machine, (left, right)):
            return True
    return False


def classes_by_search(machine):
    """For each room that a word leads to the set of rooms of its class, by going through all pairs of rooms."""
    rooms = sorted(seen_by_search(machine, 0))
    good = goodness(machine)
    return {room: frozenset([other for other in rooms if not are_unlike(machine, good, room, other)]) for room in rooms}


def numbered(machine, classes):
    """The classes in the order of their numbers (72)."""
    order = [classes[0]]
    for group in order:
        for goal in machine.steps[min(group)]:
            if classes[goal] not in order:
                order.append(classes[goal])
    return order


def form_by_search(machine):
    """Steps and ranks of the smallest form (72, 73), the ranks by walking rounds in the machine itself."""
    classes = classes_by_search(machine)
    order = numbered(machine, classes)
    steps = [[order.index(classes[goal]) for goal in machine.steps[min(group)]] for group in order]
    ranks = []
    for number, group in enumerate(order):
        text = some_round(steps, number)
        ranks.append(0 if text and machine.lets(("", text), max(group)) else 1)
    return steps, ranks


def some_round(steps, room):
    """A shortest word of one letter at least that leads from the room back to it, or None."""
    left = [(room, "")]
    met = set()
    for here, text in left:
        for letter, goal in zip("abc", steps[here]):
            if goal == room:
                return text + letter
            if goal not in met:
                met.add(goal)
                left.append((goal, text + letter))
    return None


class Forms(unittest.TestCase):
    """Points 72 to 74."""

    def test_against_a_search_through_all_pairs_of_rooms(self):
        sizes = set()
        for machine in settled():
            with self.subTest(steps=machine.steps, ranks=machine.ranks):
                form = smallest_form(machine)
                self.assertIsInstance(form, Machine)
                self.assertEqual((form.steps, form.ranks), form_by_search(machine))
                sizes.add((machine.letters, machine.many, form.many))
        self.assertEqual(set([letters for letters, many, small in sizes]), {1, 2, 3})
        self.assertEqual(set([small for letters, many, small in sizes if many == 8]), {1, 2, 3, 4, 5, 6, 7, 8})

    def test_the_same_words(self):
        for machine in settled():
            form = smallest_form(machine)
            self.assertIsNone(parting_word(machine, form))
            for word in tellings_up_to(machine.letters, 2, 3)[::3]:
                self.assertIs(form.lets(word), machine.lets(word), (machine.steps, machine.ranks, word))

    def test_numbered_as_met(self):
        for machine in settled():
            form = smallest_form(machine)
            self.assertEqual([room for room, front in rooms_reached(form)], list(range(form.many)))

    def test_ranks(self):
        """Point 73: 0 on a good loop of the form, 1 on a bad one and on none, each round of a room alike."""
        met = set()
        for machine in settled():
            form = smallest_form(machine)
            fronts = dict(rooms_reached(form))
            on_loops = set().union(*[set_of(loop) for loop in loops_in(form.steps)])
            for room in range(form.many):
                start = machine.after(0, fronts[room])
                rounds = [text for text in words_up_to("abc"[:form.letters], 4)[1:] if form.after(room, text) == room]
                for text in rounds:
                    self.assertIs(machine.lets(("", text), start), form.ranks[room] == 0)
                if room not in on_loops:
                    self.assertEqual(form.ranks[room], 1)
                met.add((room in on_loops, form.ranks[room]))
        self.assertEqual(met, {(True, 0), (True, 1), (False, 1)})

    def test_told_forms(self):
        for machine, steps, ranks in (
            (Machine([[0]], [LONG_EVEN]), [[0]], [0]), (Machine([[0, 0, 0]], [LONG_ODD]), [[0, 0, 0]], [1]),
            (nested_machine([4] * 8), [[0, 0, 0]], [0]), (nested_machine([5] * 8, 2), [[0, 0]], [1]),
            (chain(2), [[0]], [0]), (chain(7), [[0]], [1]),
            (Machine([[7, 7]] * 8, [1, 2, 3, 4, 5, 6, 7, 8]), [[0, 0]], [0]),
            (Machine([[0, 1], [1, 1], [2, 3], [3, 2]], [0, 1, 1, 2]), [[0, 1], [1, 1]], [0, 1]),
            (Machine([[2, 1], [1, 1], [2, 2]], [9, 1, 8]), [[1, 2], [1, 1], [2, 2]], [1, 0, 1]),
            (Machine([[1, 2], [3, 0], [1, 2], [3, 3]], [1, 3, 5, 2]), [[1, 0], [2, 0], [2, 2]], [1, 1, 0]),
        ):
            form = smallest_form(machine)
            self.assertEqual((form.steps, form.ranks), (steps, ranks), (machine.steps, machine.ranks))

    def test_rooms_that_are_all_unlike(self):
        for machine in (countdown(), countdown(3), row_of_eight()):
            form = smallest_form(machine)
            self.assertEqual(form.many, 8)
            self.assertEqual(len(parted_rooms(machine)), 28)
            self.assertEqual(sorted(room_classes(machine)), list(range(8)))
        self.assertEqual(smallest_form(countdown()).ranks, [1] * 7 + [0])

    def test_the_smallest_form_of_a_smallest_form_is_itself(self):
        for machine in settled():
            form = smallest_form(machine)
            again = smallest_form(form)
            self.assertEqual((again.steps, again.ranks), (form.steps, form.ranks))
            self.assertEqual(room_classes(form), list(range(form.many)))

    def test_alike_machines_have_the_very_same(self):
        draw = Random(74)
        for machine in settled():
            form = smallest_form(machine)
            marked = Settled().marked(machine)
            raised = Machine(machine.steps, [rank + 2 * 10 ** 28 for rank in machine.ranks])
            others = [marked, raised, shuffled(machine, draw), machine.opposite().opposite()]
            if machine.many <= 4:
                others += [unfolded(machine, draw), shuffled(unfolded(marked, draw), draw)]
            if form.many <= 4:
                others.append(unfolded(form, draw))
            for other in others:
                told = smallest_form(other)
                self.assertEqual((told.steps, told.ranks), (form.steps, form.ranks), (machine.steps, other.steps))
                self.assertLessEqual(form.many, other.many)

    def test_the_same_form_just_where_alike(self):
        machines = [machine for machine in settled_machines(75, 60, 1, 3) if machine.letters == 2]
        for one in machines:
            for other in machines:
                forms = [smallest_form(one), smallest_form(other)]
                same = (forms[0].steps, forms[0].ranks) == (forms[1].steps, forms[1].ranks)
                self.assertIs(same, is_alike(one, other))

    def test_the_opposite_has_the_same_steps(self):
        for machine in settled():
            form = smallest_form(machine)
            other = smallest_form(machine.opposite())
            self.assertEqual(other.steps, form.steps)
            on_loops = set().union(*[set_of(loop) for loop in loops_by_search(form)])
            for room in range(form.many):
                self.assertEqual(other.ranks[room], 1 - form.ranks[room] if room in on_loops else 1)


class Classes(unittest.TestCase):
    """Points 72 and 75."""

    def test_against_a_search_through_all_pairs_of_rooms(self):
        met = set()
        for machine in settled():
            told = room_classes(machine)
            self.assertIsInstance(told, list)
            classes = classes_by_search(machine)
            order = numbered(machine, classes)
            due = [order.index(classes[room]) if room in classes else None for room in range(machine.many)]
            self.assertEqual(told, due, (machine.steps, machine.ranks))
            met.update(told)
        self.assertEqual(met, set(range(8)) | {None})

    def test_the_form_lets_by_from_a_class_what_its_rooms_let_by(self):
        for machine in settled():
            form = smallest_form(machine)
            for room, number in enumerate(room_classes(machine)):
                if number is not None:
                    self.assertIs(is_alike(machine, form, room, number), True)

    def test_told_classes(self):
        self.assertEqual(room_classes(Machine([[0]], [1])), [0])
        self.assertEqual(room_classes(nested_machine([4] * 8)), [0] * 8)
        self.assertEqual(room_classes(countdown()), [0, 1, 3, 4, 5, 6, 7, 2])
        self.assertEqual(room_classes(split_machine()), [0, 1, 1, 3, 2, None, None, None])
        self.assertEqual(room_classes(Machine([[7, 7]] * 8, [1] * 8)), [0] + [None] * 6 + [0])


class Parted(unittest.TestCase):
    """Point 76."""

    def test_parted_rooms(self):
        for machine in settled():
            form = smallest_form(machine)
            told = parted_rooms(machine)
            self.assertIsInstance(told, list)
            rooms = range(form.many)
            self.assertEqual([entry[:2] for entry in told], [(p, q) for p in rooms for q in rooms if p < q])
            for entry in told:
                self.assertIsInstance(entry, tuple)
                p, q, word = entry
                self.assertTrue(is_endless(word, machine.letters))
                self.assertIsNot(form.lets(word, p), form.lets(word, q), (machine.steps, entry))
                self.assertEqual(word, parting_word(form, form, p, q))

    def test_one_class_has_nothing_to_part(self):
        for machine in (Machine([[0]], [0]), nested_machine([4] * 8), chain(7)):
            self.assertEqual(parted_rooms(machine), [])

    def test_told_words(self):
        machine = Machine([[2, 1], [1, 1], [2, 2]], [9, 1, 8])
        self.assertEqual(parted_rooms(machine), [(0, 1, ("b", "a")), (0, 2, ("a", "a")), (1, 2, ("", "a"))])


class Refused(unittest.TestCase):
    """Point 71."""

    def test_not_settled(self):
        met = set()
        for machine in unsettled():
            for ask in (smallest_form, room_classes, parted_rooms):
                with self.subTest(steps=machine.steps, ranks=machine.ranks):
                    with self.assertRaises(NotSettled) as caught:
                        ask(machine)
                    self.assertIs(caught.exception.__class__, NotSettled)
                    met.add((machine.letters, self.walked(machine, caught.exception)))
        self.assertEqual(met, {(2, True), (2, False), (3, True), (3, False)})

    def walked(self, machine, refusal):
        """The three words walked letter by letter; told is whether the inner loop is good."""
        start = machine.after(0, refusal.front)
        loops = []
        for text in (refusal.one, refusal.other):
            self.assertNotEqual(text, "")
            self.assertEqual(machine.after(start, text), start)
            loops.append(set(rooms_come_to(machine, start, text)))
        self.assertLess(loops[0], loops[1])
        good = [good_by_search(machine, bits_by_sum(loop)) for loop in loops]
        self.assertIsNot(good[0], good[1])
        return good[0]

    def test_loops_out_of_reach_do_not_matter(self):
        machine = Machine([[0, 0], [1, 2], [2, 1]], [0, 1, 2])
        self.assertEqual(smallest_form(machine).steps, [[0, 0]])
        self.assertEqual(room_classes(machine), [0, None, None])
        self.assertEqual(parted_rooms(machine), [])

    def test_what_is_refused_changes_nothing(self):
        machine = nested_machine([1, 2])
        for ask in (smallest_form, room_classes, parted_rooms):
            self.assertRaises(NotSettled, ask, machine)
        self.assertEqual((machine.steps, machine.ranks), ([[1, 0, 0], [0, 0, 1]], [1, 2]))


class Own(unittest.TestCase):
    """Point 2: lists are the asker's own, and the same question has the same answer."""

    def test_lists_given_back_may_be_changed(self):
        machine = split_machine()
        form = smallest_form(machine)
        kept = repr((form.steps, form.ranks, room_classes(machine), parted_rooms(machine)))
        form.steps[0][0] = 0
        form.ranks.append(3)
        classes = room_classes(machine)
        classes[0] = 7
        parted = parted_rooms(machine)
        parted.clear()
        form = smallest_form(machine)
        self.assertEqual(repr((form.steps, form.ranks, room_classes(machine), parted_rooms(machine))), kept)
        self.assertEqual((machine.steps, machine.ranks), (split_machine().steps, split_machine().ranks))

    def test_a_form_shares_no_list_with_its_machine(self):
        machine = smallest_form(split_machine())
        form = smallest_form(machine)
        form.steps[0][0] = 0
        form.steps.pop()
        form.ranks[0] = 8
        self.assertEqual((machine.steps, machine.ranks),
                         (smallest_form(split_machine()).steps, smallest_form(split_machine()).ranks))

    def test_the_same_answer_each_time_and_of_a_twin(self):
        for machine in settled()[:90]:
            twin = Machine(machine.steps, machine.ranks)
            for ask in (room_classes, parted_rooms, lambda asked: smallest_form(asked).steps,
                        lambda asked: smallest_form(asked).ranks):
                first = ask(machine)
                self.assertEqual(ask(machine), first)
                self.assertEqual(ask(twin), first)
            self.assertEqual((machine.steps, machine.ranks), (twin.steps, twin.ranks))

    def test_the_same_refusal_each_time_and_of_a_twin(self):
        for machine in unsettled()[:40]:
            told = []
            for asked in (machine, machine, Machine(machine.steps, machine.ranks)):
                with self.assertRaises(NotSettled) as caught:
                    smallest_form(asked)
                told.append((caught.exception.front, caught.exception.one, caught.exception.other))
            self.assertEqual(told, [told[0]] * 3)


if __name__ == "__main__":
    unittest.main()
