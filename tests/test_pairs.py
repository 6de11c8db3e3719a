"""Points 7, 8 and 61 to 65: two machines asked together."""

import unittest
from itertools import product
from random import Random

from helpers import (
    drawn_machines, layered_machines, loops_in, nested_machine, odd_things, pairs_by_search, rooms_again_and_again,
    rooms_come_to, set_of, shuffled, small_machines, split_machine, tellings_up_to, unfolded,
)
from looprank.errors import NoPaper, NoRoom, OtherLetters
from looprank.lowest import lowered
from looprank.machines import Machine
from looprank.pairs import is_alike, is_within, ladders, pair_rooms, parting_word, wanted_word
from looprank.reach import trimmed
from looprank.words import comes_ahead, is_endless, shortest_telling

LONG_ODD = 10 ** 30 - 1
LONG_EVEN = 10 ** 30 - 2
WANTED = list(product((True, False), repeat=4))
PARTING = (False, True, True, False)
ALONE = (False, True, False, False)
# With so many letters at most in beginning and round, of one, two and three letters, a search through all is quick.
MOST = {1: 24, 2: 8, 3: 5}


def ring(ranks, letters=1):
    """Each letter leads one room on, from the last room to the first."""
    return Machine([[(room + 1) % len(ranks)] * letters for room in range(len(ranks))], ranks)


def drawn_pairs(seed, count, most_rooms=8):
    """Pairs of machines of as many letters, each with a left and a right room."""
    draw = Random(seed)
    pool = drawn_machines(seed, 6 * count, 1, most_rooms) + layered_machines(seed, 2 * count, 1, most_rooms)
    draw.shuffle(pool)
    found = []
    while len(found) < count:
        one = pool.pop()
        other = [machine for machine in pool if machine.letters == one.letters][0]
        pool.remove(other)
        if len(found) % 3 == 0:
            found.append((one, other, 0, 0))
        else:
            found.append((one, other, draw.randrange(one.many), draw.randrange(other.many)))
    return found


def alike_pairs(seed, count):
    """Pairs of machines that are alike, and of a machine with itself and with its opposite."""
    draw = Random(seed)
    found = []
    for machine in drawn_machines(seed, count) + layered_machines(seed, count, 1, 4):
        raised = Machine(machine.steps, [rank + 10 ** 29 for rank in machine.ranks])
        others = [machine, lowered(machine), shuffled(machine, draw), trimmed(machine), raised, machine.opposite()]
        if machine.many <= 4:
            others.append(unfolded(machine, draw))
        found.append((machine, draw.choice(others), 0, 0))
    return found


def edge_pairs():
    """One and eight rooms, long ranks, rooms that no word leads to, pairs that come again behind several rounds."""
    eight = nested_machine(list(range(8)))
    return [
        (Machine([[0]], [0]), Machine([[0]], [0]), 0, 0), (Machine([[0]], [0]), Machine([[0]], [1]), 0, 0),
        (Machine([[0]], [LONG_EVEN]), Machine([[0]], [LONG_ODD]), 0, 0), (eight, eight, 0, 0), (eight, eight, 0, 7),
        (eight, eight, 5, 2), (eight, eight.opposite(), 3, 3), (split_machine(), split_machine(), 5, 0),
        (split_machine(), split_machine(), 0, 6), (split_machine(), split_machine().opposite(), 7, 3),
        (ring([0, 0, 0]), ring([0, 0, 0, 1]), 0, 0), (ring([0, 1]), ring([1, 0, 0]), 1, 2),
        (ring([0] * 7), ring([1] + [0] * 7), 3, 5), (ring([0, 1], 2), ring([2, 1, 2, 2, 2], 2), 0, 0),
        (nested_machine([LONG_ODD, LONG_EVEN]), nested_machine([1, 2, 3]), 0, 1),
        (nested_machine([5] * 8), nested_machine([3] * 8), 2, 0), (nested_machine([4] * 8), eight, 0, 0),
        (Machine([[0, 0]] + [[1, 2]] * 7, [0, 1, 2, 3, 4, 5, 6, 7]), nested_machine([1, 2], 2), 0, 0),
        (Machine([[0, 0]] + [[1, 2]] * 7, [0, 1, 2, 3, 4, 5, 6, 7]), nested_machine([1, 2], 2), 7, 1),
    ]


def all_pairs():
    return edge_pairs() + drawn_pairs(61, 70) + alike_pairs(62, 50)


def outcome_of(one, other, word, left, right):
    """The place of the outcome among the four, by the ranks that come again and again."""
    tops = [max([machine.ranks[place] for place in rooms_again_and_again(machine, word, room)])
            for machine, room in ((one, left), (other, right))]
    return 2 * (tops[0] % 2) + tops[1] % 2


def tellings_in_order(letters, most):
    """All tellings with at most so many letters in beginning and round, in the order of point 15."""
    words = {size: ["".join(signs) for signs in product("abc"[:letters], repeat=size)] for size in range(most + 1)}
    return [(beginning, cycle) for count in range(1, most + 1) for size in range(count)
            for beginning in words[size] for cycle in words[count - size]]


def comes_again(one, other, word, left, right):
    """Whether the pair behind the beginning is the pair behind the beginning and the round."""
    for machine, room in ((one, left), (other, right)):
        rooms = [room] + rooms_come_to(machine, room, word[0] + word[1])
        if rooms[len(word[0])] != rooms[-1]:
            return False
    return True


def first_words(one, other, left, right, tellings):
    """For each outcome the first of these tellings that has it and whose pair comes again."""
    found = {}
    for word in tellings:
        if comes_again(one, other, word, left, right):
            found.setdefault(outcome_of(one, other, word, left, right), word)
            if len(found) == 4:
                break
    return found


def outcomes_by_search(one, other, left, right):
    """The outcomes that words have, by going through all loops of the pairs."""
    pairs = pairs_by_search(one, other, left, right)
    steps = [[pairs.index(goal) for goal in zip(one.steps[p], other.steps[q])] for p, q in pairs]
    found = set()
    for loop in loops_in(steps):
        top = max([one.ranks[pairs[place][0]] for place in set_of(loop)])
        other_top = max([other.ranks[pairs[place][1]] for place in set_of(loop)])
        found.add(2 * (top % 2) + other_top % 2)
    return found


class Pairs(unittest.TestCase):
    """Point 61."""

    def test_pairs(self):
        for one, other, left, right in all_pairs():
            told = pair_rooms(one, other, left, right)
            self.assertIsInstance(told, list)
            self.assertEqual(told, pairs_by_search(one, other, left, right))

    def test_told_pairs(self):
        self.assertEqual(pair_rooms(Machine([[0]], [0]), Machine([[0]], [1])), [(0, 0)])
        self.assertEqual(pair_rooms(ring([0, 1]), ring([0, 1])), [(0, 0), (1, 1)])
        self.assertEqual(pair_rooms(ring([0, 1]), ring([0, 1]), 0, 1), [(0, 1), (1, 0)])
        self.assertEqual(pair_rooms(ring([0, 1]), ring([0, 1]), 1), [(0, 1), (1, 0)])
        self.assertEqual(pair_rooms(ring([0, 1]), ring([0, 1, 2])), list(product(range(2), range(3))))
        self.assertEqual(pair_rooms(Machine([[1], [2], [2]], [0] * 3), Machine([[0]], [0]), left=1), [(1, 0), (2, 0)])
        self.assertEqual(pair_rooms(Machine([[0]], [0]), Machine([[1], [2], [2]], [0] * 3), right=2), [(0, 2)])

    def test_sixty_four_pairs(self):
        one = Machine([[(room + 1) % 8, room] for room in range(8)], [0] * 8)
        other = Machine([[room, (room + 1) % 8] for room in range(8)], [1] * 8)
        self.assertEqual(pair_rooms(one, other), list(product(range(8), range(8))))


class WantedWords(unittest.TestCase):
    """Points 62 and 63."""

    def check_first(self, one, other, left, right, tellings):
        """Each wanted word is the first telling of all, or there is none among those searched through."""
        firsts = first_words(one, other, left, right, tellings)
        for wanted in WANTED:
            told = wanted_word(one, other, wanted, left, right)
            due = [word for word in [firsts.get(place) for place in range(4) if wanted[place]] if word]
            due = sorted(due, key=lambda word: tellings.index(word))[:1]
            if due:
                self.assertEqual(told, due[0], (one.steps, other.steps, wanted))
            elif told is not None:
                self.assertGreater(len(told[0]) + len(told[1]), MOST[one.letters])

    def test_the_first_of_all_tellings(self):
        searched = {letters: tellings_in_order(letters, most) for letters, most in MOST.items()}
        for one, other, left, right in edge_pairs() + drawn_pairs(63, 60) + alike_pairs(64, 24):
            with self.subTest(one=(one.steps, one.ranks), other=(other.steps, other.ranks), rooms=(left, right)):
                self.check_first(one, other, left, right, searched[one.letters])

    def test_the_words_themselves(self):
        met = set()
        for one, other, left, right in all_pairs():
            for wanted in WANTED:
                word = wanted_word(one, other, wanted, left, right)
                met.add((one.letters, word is None))
                if word is not None:
                    self.assertTrue(is_endless(word, one.letters))
                    self.assertTrue(comes_again(one, other, word, left, right), word)
                    self.assertTrue(wanted[outcome_of(one, other, word, left, right)], word)
        self.assertEqual(met, set(product((1, 2, 3), (True, False))))

    def test_none_just_where_no_loop_of_pairs_is_wanted(self):
        for one, other, left, right in drawn_pairs(65, 80, 3) + alike_pairs(66, 60)[60:]:
            if len(pairs_by_search(one, other, left, right)) > 10:
                continue
            outcomes = outcomes_by_search(one, other, left, right)
            for wanted in WANTED:
                told = wanted_word(one, other, wanted, left, right)
                self.assertIs(told is None, not [place for place in outcomes if wanted[place]])

    def test_left_out_rooms_are_room_0(self):
        for one, other, left, right in drawn_pairs(67, 20):
            for wanted in WANTED:
                self.assertEqual(wanted_word(one, other, wanted), wanted_word(one, other, wanted, 0, 0))
                self.assertEqual(wanted_word(one, other, wanted, left), wanted_word(one, other, wanted, left, 0))
                self.assertEqual(wanted_word(one, other, wanted, right=right),
                                 wanted_word(one, other, wanted, 0, right))

    def test_all_wanted_and_none(self):
        for one, other, left, right in all_pairs():
            self.assertIsNone(wanted_word(one, other, (False,) * 4, left, right))
            self.assertIsNotNone(wanted_word(one, other, (True,) * 4, left, right))
        self.assertEqual(wanted_word(ring([0, 1, 1]), ring([0, 1]), (True,) * 4), ("", "aaaaaa"))
        self.assertEqual(wanted_word(nested_machine([1, 2]), nested_machine([1, 2]), (True,) * 4), ("", "b"))
        self.assertEqual(wanted_word(nested_machine([1, 2]), nested_machine([1, 2]), (True, False, False, False)),
                         ("", "aa"))

    def test_each_outcome(self):
        """a keeps the left machine in its room, b the right one: each outcome has its own shortest word."""
        one = Machine([[0, 1], [1, 0]], [0, 1])
        other = Machine([[1, 0], [0, 1]], [1, 0])
        told = [wanted_word(one, other, tuple([place == number for place in range(4)])) for number in range(4)]
        self.assertEqual(told, [None, ("", "aa"), ("a", "bb"), ("", "bb")])
        self.assertEqual(outcomes_by_search(one, other, 0, 0), {1, 2, 3})
        told = [wanted_word(one, other, tuple([place == number for place in range(4)]), 0, 1) for number in range(4)]
        self.assertEqual(told, [None, ("", "aa"), ("", "bb"), ("a", "bb")])

    def test_shorter_beginnings_and_then_the_alphabet(self):
        """Of as many letters in all, the one without a beginning comes first, and then the alphabet decides."""
        machine = Machine([[1, 2, 0], [1, 1, 1], [2, 2, 2]], [1, 0, 0])
        self.assertEqual(wanted_word(machine, machine, (True, False, False, False)), ("a", "a"))
        self.assertEqual(wanted_word(machine, machine, (False, False, False, True)), ("", "c"))
        machine = Machine([[1, 0], [0, 2], [2, 2]], [1, 2, 4])
        self.assertEqual(wanted_word(machine, machine, (True, False, False, False)), ("", "aa"))
        machine = Machine([[1, 2, 3], [3, 3, 3], [3, 3, 2], [3, 3, 3]], [1, 1, 2, 1])
        self.assertEqual(wanted_word(machine, machine, (True, False, False, False)), ("b", "c"))

    def test_a_pair_that_comes_again_behind_several_rounds_only(self):
        """The endless word is a for ever, but the pair comes again behind twelve and behind 56 letters."""
        self.assertEqual(wanted_word(ring([0, 0, 0]), ring([0, 0, 0, 1]), ALONE), ("", "a" * 12))
        self.assertEqual(shortest_telling(("", "a" * 12)), ("", "a"))
        self.assertEqual(parting_word(ring([0] * 7), ring([1] + [0] * 7), 3, 5), ("", "a" * 56))
        self.assertEqual(parting_word(ring([0, 0, 0], 2), ring([1, 2, 3, 0], 2)), ("", "a" * 12))
        two = Machine([[1, 1], [2, 1], [1, 3], [3, 3]], [1, 0, 0, 1])
        self.assertEqual(wanted_word(two, Machine([[0, 0]], [0]), (True, False, False, False)), ("a", "b"))
        self.assertEqual(wanted_word(two, Machine([[0, 1], [1, 0]], [0, 0]), (True, False, False, False)),
                         ("a", "aa"))

    def test_long_rounds(self):
        """A beginning and a round for which many rooms must be gone through."""
        one = Machine([[(room + 1) % 8, 0] for room in range(8)], [1] * 7 + [2])
        self.assertEqual(wanted_word(one, one, (True, False, False, False)), ("", "a" * 8))
        two = Machine([[0, (room + 1) % 8] for room in range(8)], [1] * 7 + [2])
        self.assertEqual(wanted_word(one, two, (True, False, False, False)), ("", "a" * 7 + "b" * 8))

    def test_long_ranks(self):
        one = nested_machine([LONG_ODD, LONG_EVEN])
        other = nested_machine([LONG_EVEN, LONG_ODD])
        self.assertEqual(parting_word(one, other), ("", "b"))
        self.assertEqual(wanted_word(one, other, (True, False, False, True)), ("", "aa"))
        self.assertIsNone(wanted_word(one, other, (True, False, False, False)))
        self.assertIsNone(parting_word(one, nested_machine([3, 2])))


class Papers(unittest.TestCase):
    """Points 63 and 64."""

    def check_paper(self, one, other, wanted, left, right, paper):
        """All that point 64 asks, gone through pair by pair and letter by letter."""
        pairs = pairs_by_search(one, other, left, right)
        lefts = [one.ranks[p] for p, q in pairs]
        rights = [other.ranks[q] for p, q in pairs]
        due = [(p, q) for p in sorted(set(lefts)) for q in sorted(set(rights)) if wanted[2 * (p % 2) + q % 2]]
        self.assertIsInstance(paper, list)
        self.assertEqual([entry[:2] for entry in paper], due)
        for entry in paper:
            self.assertIsInstance(entry, tuple)
            p, q, numbers = entry
            self.assertIsInstance(numbers, list)
            self.assertEqual(len(numbers), len(pairs))
            standing = {}
            for place, pair in enumerate(pairs):
                if lefts[place] > p or rights[place] > q:
                    self.assertIsNone(numbers[place])
                    continue
                self.assertIs(numbers[place].__class__, int)
                self.assertGreaterEqual(numbers[place], 0)
                standing.setdefault(numbers[place], []).append(place)
                for goal in zip(one.steps[pair[0]], other.steps[pair[1]]):
                    after = numbers[pairs.index(goal)]
                    self.assertTrue(after is None or after <= numbers[place])
            for places in standing.values():
                self.check_standing(one, other, pairs, places, [place for place in places if lefts[place] == p],
                                    [place for place in places if rights[place] == q])

    def check_standing(self, one, other, pairs, places, with_p, with_q):
        if with_p and with_q:
            self.assertEqual(len(places), 1)
            p, q = pairs[places[0]]
            self.assertNotIn((p, q), list(zip(one.steps[p], other.steps[q])))

    def test_just_one_of_a_wanted_word_and_a_paper(self):
        met = set()
        for one, other, left, right in all_pairs():
            for wanted in WANTED:
                with self.subTest(one=(one.steps, one.ranks), other=(other.steps, other.ranks), wanted=wanted):
                    if wanted_word(one, other, wanted, left, right) is None:
                        self.check_paper(one, other, wanted, left, right, ladders(one, other, wanted, left, right))
                        met.add((one.letters, sum(wanted)))
                    else:
                        with self.assertRaises(NoPaper) as caught:
                            ladders(one, other, wanted, left, right)
                        self.assertIs(caught.exception.__class__, NoPaper)
        self.assertEqual(met, set(product((1, 2, 3), range(4))))

    def test_no_outcome_wanted(self):
        for one, other, left, right in edge_pairs():
            self.assertEqual(ladders(one, other, (False,) * 4, left, right), [])

    def test_all_outcomes_wanted(self):
        for one, other, left, right in edge_pairs():
            self.assertRaises(NoPaper, ladders, one, other, (True,) * 4, left, right)

    def test_a_pair_that_alone_has_both_ranks_and_is_on_no_loop(self):
        one = Machine([[1], [1]], [3, 0])
        other = Machine([[1], [1]], [4, 0])
        wanted = (False, False, True, False)
        paper = ladders(one, other, wanted)
        self.check_paper(one, other, wanted, 0, 0, paper)
        self.assertEqual([entry[:2] for entry in paper], [(3, 0), (3, 4)])
        self.assertEqual(paper[0][2][0], None)
        self.assertGreater(paper[1][2][0], paper[1][2][1])

    def test_only_ranks_of_rooms_that_are_come_to(self):
        machine = split_machine()
        paper = ladders(machine, machine, PARTING, 3, 3)
        self.assertEqual(paper, [])
        paper = ladders(machine, machine, PARTING, 1, 1)
        self.assertEqual([entry[:2] for entry in paper], [(1, 2), (2, 1)])
        self.assertEqual([[number is None for number in entry[2]] for entry in paper], [[False, True], [False, True]])

    def test_ranks_rise(self):
        machine = nested_machine([10, 3, 2, 1, 9, 4], 2)
        paper = ladders(machine, machine, PARTING)
        self.assertEqual([entry[:2] for entry in paper],
                         sorted([(p, q) for p in machine.ranks for q in machine.ranks if (p + q) % 2]))

    def test_rooms_that_are_left_out(self):
        machine = split_machine()
        self.assertEqual(ladders(machine, machine, PARTING), ladders(machine, machine, PARTING, 0, 0))
        self.assertEqual(ladders(machine, machine, (False, False, False, True), 1, right=2),
                         ladders(machine, machine, (False, False, False, True), 1, 2))


class Alike(unittest.TestCase):
    """Points 7 and 65."""

    def test_parting_words(self):
        for one, other, left, right in all_pairs():
            word = parting_word(one, other, left, right)
            self.assertEqual(word, wanted_word(one, other, PARTING, left, right))
            alone = wanted_word(one, other, ALONE, left, right)
            self.assertIs(is_alike(one, other, left, right), word is None)
            self.assertIs(is_within(one, other, left, right), alone is None)
            if word is not None:
                self.assertIsNot(one.lets(word, left), other.lets(word, right))
            if alone is not None:
                self.assertIs(one.lets(alone, left), True)
                self.assertIs(other.lets(alone, right), False)
                self.assertFalse(comes_ahead(alone, word))

    def test_alike_machines(self):
        draw = Random(65)
        for machine in drawn_machines(65, 40) + small_machines()[::9]:
            others = [machine, Machine(machine.steps, machine.ranks), lowered(machine), trimmed(machine),
                      shuffled(machine, draw), machine.opposite().opposite()]
            if machine.many <= 4:
                others.append(unfolded(machine, draw))
            for other in others:
                self.assertIs(is_alike(machine, other), True)
                self.assertIs(is_alike(other, machine), True)
                self.assertIs(is_within(machine, other), True)
                self.assertIsNone(parting_word(machine, other))
            self.assertIs(is_alike(machine, machine.opposite()), False)

    def test_a_machine_with_itself_from_each_room(self):
        for machine in drawn_machines(66, 30):
            for room in range(machine.many):
                self.assertIs(is_alike(machine, machine, room, room), True)
                self.assertIs(is_within(machine, machine, room, room), True)
                self.assertIsNone(parting_word(machine, machine, room, room))

    def test_against_short_words(self):
        for one, other, left, right in drawn_pairs(68, 60, 3):
            alike = True
            inside = True
            for word in tellings_up_to(one.letters, 3, 4):
                answers = (one.lets(word, left), other.lets(word, right))
                alike = alike and answers[0] == answers[1]
                inside = inside and answers != (True, False)
            if not alike:
                self.assertIs(is_alike(one, other, left, right), False)
            if not inside:
                self.assertIs(is_within(one, other, left, right), False)

    def test_within_but_not_alike(self):
        some = Machine([[0, 1], [1, 1]], [0, 1])
        every = Machine([[0, 0]], [2])
        self.assertIs(is_within(some, every), True)
        self.assertIs(is_within(every, some), False)
        self.assertIs(is_alike(some, every), False)
        self.assertEqual(parting_word(some, every), ("b", "a"))
        self.assertIs(is_within(some, every, 1), True)
        self.assertIs(is_within(every, some, 0, 1), False)
        self.assertIs(is_within(every, some, right=1), False)
        self.assertIs(is_alike(some, some, 1, right=1), True)
        self.assertIs(is_alike(some, some, 0, 1), False)

    def test_rooms_that_no_word_leads_to_change_nothing(self):
        for machine in drawn_machines(67, 40):
            small = trimmed(machine)
            if small.many < machine.many:
                self.assertIsNone(parting_word(machine, small))
                last = sorted(set(range(machine.many)) - set(pair[0] for pair in pair_rooms(machine, machine)))[0]
                changed = list(machine.ranks)
                changed[last] += 1
                self.assertIs(is_alike(machine, Machine(machine.steps, changed)), True)


class Refused(unittest.TestCase):
    """Points 2 and 61: OtherLetters, then NoRoom of left, then NoRoom of right."""

    def asks(self):
        return [
            lambda one, other, left, right: pair_rooms(one, other, left, right),
            lambda one, other, left, right: wanted_word(one, other, PARTING, left, right),
            lambda one, other, left, right: wanted_word(one, other, (False,) * 4, left, right),
            lambda one, other, left, right: ladders(one, other, (True,) * 4, left, right),
            lambda one, other, left, right: ladders(one, other, (False,) * 4, left, right),
            lambda one, other, left, right: parting_word(one, other, left, right),
            lambda one, other, left, right: is_alike(one, other, left, right),
            lambda one, other, left, right: is_within(one, other, left, right),
        ]

    def check_refused(self, error, ask, one, other, left, right):
        with self.assertRaises(error) as caught:
            ask(one, other, left, right)
        self.assertIs(caught.exception.__class__, error)

    def test_unlike_numbers_of_letters_first(self):
        machines = [nested_machine([1, 2], letters) for letters in (1, 2, 3)]
        for one, other in product(machines, machines):
            if one.letters != other.letters:
                for ask in self.asks():
                    for left, right in ((0, 0), (1, 1), (2, 0), (0, 2), (None, "a"), (True, -1)):
                        self.check_refused(OtherLetters, ask, one, other, left, right)

    def test_what_is_no_room(self):
        one = nested_machine([1, 2], 2)
        other = nested_machine([1, 2, 3], 2)
        for ask in self.asks():
            for thing in odd_things() + [3, 8, "", "0", 1.0]:
                for room in (0, 1, thing):
                    self.check_refused(NoRoom, ask, one, other, thing, room)
                    self.check_refused(NoRoom, ask, one, other, room, thing)
            self.check_refused(NoRoom, ask, one, other, 2, 0)
            self.check_refused(NoRoom, ask, other, one, 0, 2)
        self.assertEqual(pair_rooms(one, other, 1, 2)[0], (0, 0))

    def test_refused_ahead_of_the_paper(self):
        one = Machine([[0]], [0])
        self.assertRaises(NoPaper, ladders, one, one, (True,) * 4)
        self.assertRaises(NoRoom, ladders, one, one, (True,) * 4, 1)
        self.assertRaises(OtherLetters, ladders, one, Machine([[0, 0]], [0]), (True,) * 4, 1)


class Own(unittest.TestCase):
    """Point 2: lists are the asker's own, and the same question has the same answer."""

    def test_lists_given_back_may_be_changed(self):
        machine = split_machine()
        pairs = repr(pair_rooms(machine, machine))
        told = pair_rooms(machine, machine)
        told.clear()
        self.assertEqual(repr(pair_rooms(machine, machine)), pairs)
        paper = repr(ladders(machine, machine, PARTING))
        told = ladders(machine, machine, PARTING)
        told[0][2].append(5)
        told[1][2].clear()
        told.pop()
        self.assertEqual(repr(ladders(machine, machine, PARTING)), paper)
        self.assertEqual((machine.steps, machine.ranks), (split_machine().steps, split_machine().ranks))

    def test_no_two_numbers_lists_are_one(self):
        machine = split_machine()
        told = ladders(machine, machine, PARTING)
        kept = repr(told[1:])
        told[0][2].append(7)
        self.assertEqual(repr(told[1:]), kept)

    def test_the_same_answer_each_time_and_of_a_twin(self):
        for one, other, left, right in drawn_pairs(69, 30) + alike_pairs(70, 10):
            twins = [Machine(machine.steps, machine.ranks) for machine in (one, other)]
            for wanted in WANTED:
                word = wanted_word(one, other, wanted, left, right)
                self.assertEqual(wanted_word(one, other, wanted, left, right), word)
                self.assertEqual(wanted_word(twins[0], twins[1], wanted, left, right), word)
                if word is None:
                    paper = ladders(one, other, wanted, left, right)
                    self.assertEqual(ladders(twins[0], twins[1], wanted, left, right), paper)
            self.assertEqual((one.steps, one.ranks), (twins[0].steps, twins[0].ranks))
            self.assertEqual((other.steps, other.ranks), (twins[1].steps, twins[1].ranks))


if __name__ == "__main__":
    unittest.main()
