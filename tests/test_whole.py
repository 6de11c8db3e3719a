"""Point 8: what the whole program promises, each part held against another one."""

import unittest
from fractions import Fraction
from random import Random

from helpers import (
    bits_by_sum, drawn_machines, good_by_search, is_settled_by_search, layered_machines, nested_machine,
    pairs_by_search, rooms_come_to, seen_by_search, settled_machines, shuffled, split_machine, stretched,
    tellings_up_to, turning_machines, unfolded,
)
from looprank.desk import Desk
from looprank.digits import from_on, up_to, value_of, writings_of
from looprank.forms import show_machine
from looprank.kinds import Again, EarlyNo, EarlyYes, Lasting, Settled, kinds_of
from looprank.learner import learn
from looprank.lowest import lowered, lowest_ranks
from looprank.machines import Machine
from looprank.pairs import is_alike, ladders, parting_word
from looprank.reach import trimmed
from looprank.smallest import smallest_form

PARTING = (False, True, True, False)
LONG = 10 ** 29


def machines():
    edges = [
        Machine([[0]], [0]), Machine([[0]], [LONG + 1]), nested_machine(list(range(8))), nested_machine([1, 2]),
        nested_machine([LONG, LONG + 1, LONG]), split_machine(), up_to(1, 2, 2), from_on(5, 6, 3), up_to(0, 1, 3),
    ]
    return edges + drawn_machines(8, 60) + layered_machines(9, 60) + turning_machines(10, 36)


def alike_ones(machine, draw):
    """Machines of other steps, numbers and ranks that let by the same words."""
    found = [lowered(machine), shuffled(machine, draw), trimmed(machine), machine.opposite().opposite(),
             Machine(machine.steps, [rank + LONG * 2 for rank in machine.ranks])]
    if machine.many <= 4:
        found.append(unfolded(machine, draw))
    return found


def goodness(machine, start, text):
    return good_by_search(machine, bits_by_sum(rooms_come_to(machine, start, text)))


def rooms_round(machine, start, text):
    """The rooms of a round, None where it is none."""
    rooms = rooms_come_to(machine, start, text)
    return set(rooms) if rooms and rooms[-1] == start else None


def unlike_ranks(machine):
    return len(set([machine.ranks[room] for room in seen_by_search(machine, 0)]))


def shows_alike(one, other, paper):
    """Goes along a table of numbers (64), pair by pair and letter by letter, without any search."""
    pairs = pairs_by_search(one, other)
    ranks = [(one.ranks[left], other.ranks[right]) for left, right in pairs]
    due = sorted(set([(p, q) for p, left in ranks for left, q in ranks if (p + q) % 2]))
    if [entry[:2] for entry in paper] != due:
        return False
    for p, q, numbers in paper:
        kept = [left <= p and right <= q for left, right in ranks]
        if [number is not None for number in numbers] != kept:
            return False
        for place, pair in enumerate(pairs):
            goals = [pairs.index(goal) for goal in zip(one.steps[pair[0]], other.steps[pair[1]])]
            if kept[place] and not all([numbers[goal] <= numbers[place] for goal in goals if kept[goal]]):
                return False
        for number in set(numbers) - {None}:
            places = [place for place in range(len(pairs)) if numbers[place] == number]
            left = [place for place in places if ranks[place][0] == p]
            right = [place for place in places if ranks[place][1] == q]
            if left and right:
                pair = pairs[places[0]]
                if len(places) > 1 or pair in zip(one.steps[pair[0]], other.steps[pair[1]]):
                    return False
    return True


class Whole(unittest.TestCase):
    def test_words_not_tellings(self):
        draw = Random(1)
        for machine in machines():
            for word in tellings_up_to(machine.letters, 1, 3)[::2]:
                answer = machine.lets(word)
                for turn in range(3):
                    self.assertIs(machine.lets(stretched(word, draw)), answer)

    def test_the_fewest_ranks(self):
        draw = Random(2)
        for machine in machines():
            ranks, papers = lowest_ranks(machine)
            few = Machine(machine.steps, ranks)
            self.assertIsNone(parting_word(machine, few))
            count = len(papers[0][1]) if len(papers) == 1 else len(papers[0][1]) + 1
            self.assertEqual(unlike_ranks(few), count)
            for other in alike_ones(machine, draw):
                self.assertGreaterEqual(unlike_ranks(other), count)
            for front, rounds in papers:
                start = machine.after(0, front)
                loops = [rooms_round(machine, start, text) for text in rounds]
                sorts = [goodness(machine, start, text) for text in rounds]
                for place in range(1, len(rounds)):
                    self.assertLess(loops[place - 1], loops[place])
                    self.assertIsNot(sorts[place - 1], sorts[place])

    def test_kinds(self):
        met = set()
        for machine in machines():
            told = kinds_of(machine)
            for kind in (EarlyNo(), EarlyYes(), Settled(), Again(), Lasting()):
                bar = kind.bar(machine)
                met.add((kind.word(), bar is None))
                self.assertIs(kind.word() in told, bar is None)
                if bar is None:
                    marked = kind.marked(machine)
                    self.assertEqual(marked.steps, machine.steps)
                    self.assertIsNone(parting_word(machine, marked))
                    self.assertIn(kind.word(), kinds_of(marked))
                else:
                    self.check_bar(machine, bar)
        self.assertEqual(len(met), 10)

    def check_bar(self, machine, bar):
        front, one, way, other = bar
        start = machine.after(0, front)
        end = machine.after(start, way)
        self.assertIsNotNone(rooms_round(machine, start, one))
        self.assertIsNotNone(rooms_round(machine, end, other))
        self.assertIsNot(goodness(machine, start, one), goodness(machine, end, other))

    def test_two_machines(self):
        draw = Random(3)
        pool = machines()
        met = set()
        for one in pool:
            others = alike_ones(one, draw) + [one.opposite()]
            others += draw.sample([other for other in pool if other.letters == one.letters], 2)
            for other in others:
                word = parting_word(one, other)
                met.add(word is None)
                self.assertIs(is_alike(one, other), word is None)
                if word is None:
                    self.assertTrue(shows_alike(one, other, ladders(one, other, PARTING)))
                else:
                    self.assertIsNot(one.lets(word), other.lets(word))
        self.assertEqual(met, {True, False})

    def test_one_smallest_form(self):
        draw = Random(4)
        for machine in [machine for machine in machines() if is_settled_by_search(machine)]:
            form = show_machine(smallest_form(machine))
            for other in alike_ones(machine, draw):
                self.assertEqual(show_machine(smallest_form(other)), form)
        pool = [machine for machine in settled_machines(5, 60, 1, 4) if machine.letters == 2]
        for one in pool:
            for other in pool:
                same = show_machine(smallest_form(one)) == show_machine(smallest_form(other))
                self.assertIs(same, parting_word(one, other) is None)

    def test_who_learns_ends_with_that_form(self):
        draw = Random(6)
        for machine in turning_machines(7, 54) + settled_machines(8, 40, 1, 6):
            form = smallest_form(machine)
            for other in [machine] + alike_ones(machine, draw):
                learned, guesses, askings = learn(other.letters, other.lets, lambda guess: parting_word(guess, other))
                self.assertEqual(show_machine(learned), show_machine(form))
                self.assertLessEqual(guesses - 1, form.many)
                self.assertLessEqual(guesses, form.many)

    def test_fractions_are_learned_too(self):
        """A machine of a fraction is early no and so settled: with at most six classes it can be learned."""
        sizes = set()
        for base in (2, 3):
            for bottom in range(1, 7):
                for top in range(bottom + 1):
                    for make in (up_to, from_on):
                        machine = make(top, bottom, base)
                        form = smallest_form(machine)
                        sizes.add(form.many)
                        if form.many <= 6:
                            told = learn(base, machine.lets, lambda guess: parting_word(guess, machine))
                            self.assertEqual(show_machine(told[0]), show_machine(form))
        self.assertTrue({1, 2, 3, 4, 5, 6} <= sizes)

    def test_the_digits_of_just_the_fractions_up_to_a_told_one(self):
        fractions = [(top, bottom) for bottom in range(1, 7) for top in range(bottom + 1)]
        for base in (2, 3):
            for top, bottom in fractions:
                machine = up_to(top, bottom, base)
                for other_top, other_bottom in fractions:
                    inside = Fraction(other_top, other_bottom) <= Fraction(top, bottom)
                    for word in writings_of(other_top, other_bottom, base):
                        self.assertIs(machine.lets(word), inside)
                for word in tellings_up_to(base, 1, 3):
                    self.assertIs(machine.lets(word), Fraction(*value_of(word, base)) <= Fraction(top, bottom))

    def test_the_desk_tells_the_same(self):
        draw = Random(9)
        for machine in machines()[:80]:
            desk = Desk()
            desk.say(f"keep one {show_machine(machine)}")
            for other in [lowered(machine), shuffled(machine, draw), trimmed(machine)]:
                desk.say(f"keep other {show_machine(other)}")
                self.assertEqual(desk.say("part one other"), "none")
                self.assertEqual(desk.say("kinds one"), desk.say("kinds other"))


if __name__ == "__main__":
    unittest.main()
