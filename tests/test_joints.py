"""Point 66: joints of two machines."""

import unittest
from itertools import product
from random import Random

from helpers import (
    drawn_machines, layered_machines, lets_by_search, nested_machine, odd_things, pairs_by_search, small_machines,
    split_machine, tellings_up_to,
)
from looprank.errors import NoWord, OtherLetters
from looprank.joints import Both, Either, Joint, Less, Nor, Unlike
from looprank.machines import Machine
from looprank.pairs import wanted_word

JOINTS = (Both, Either, Less, Unlike, Nor)
TRUTHS = {
    Both: (True, False, False, False), Either: (True, True, True, False), Less: (False, True, False, False),
    Unlike: (False, True, True, False), Nor: (False, False, False, True),
}
ANSWERS = ((True, True), (True, False), (False, True), (False, False))
LONG_ODD = 10 ** 30 - 1
LONG_EVEN = 10 ** 30 - 2


def twos():
    """Two machines of as many letters each, drawn with a fixed seed, and edges."""
    draw = Random(66)
    pool = drawn_machines(66, 60) + layered_machines(66, 60) + small_machines()[::40]
    found = [
        (Machine([[0]], [0]), Machine([[0]], [1])), (Machine([[0]], [LONG_ODD]), Machine([[0]], [LONG_ODD])),
        (Machine([[0]], [LONG_EVEN]), Machine([[0]], [2])), (nested_machine(list(range(8))), nested_machine([1, 2])),
        (split_machine(), split_machine()), (split_machine(), split_machine().opposite()),
        (nested_machine([4] * 8), nested_machine([5] * 8)),
    ]
    for one in pool[:70]:
        found.append((one, draw.choice([other for other in pool if other.letters == one.letters])))
    return found


class Truths(unittest.TestCase):
    def test_the_classes(self):
        for name in JOINTS:
            self.assertEqual(name.__bases__, (Joint,))

    def test_truths(self):
        machine = Machine([[0]], [0])
        for name in JOINTS:
            for answers, truth in zip(ANSWERS, TRUTHS[name]):
                self.assertIs(name(machine, machine).truth(answers[0], answers[1]), truth, (name, answers))

    def test_leads(self):
        for one, other in twos()[:12]:
            for name in JOINTS:
                self.assertEqual(name(one, other).leads(), TRUTHS[name])
                self.assertIsInstance(name(one, other).leads(), tuple)
                for truth in name(one, other).leads():
                    self.assertIs(truth.__class__, bool)


class Made(unittest.TestCase):
    def check_kept(self, joint):
        self.assertIsInstance(joint.inner, Machine)
        self.assertIsInstance(joint.outer, Machine)
        self.assertEqual((joint.inner.steps, joint.inner.ranks), ([[1, 0, 0], [0, 0, 1]], [1, 2]))
        self.assertEqual((joint.outer.steps, joint.outer.ranks), ([[1, 0, 0], [0, 0, 1]], [2, 3]))

    def test_a_joint_keeps_the_two_machines(self):
        for name in JOINTS:
            joint = name(nested_machine([1, 2]), nested_machine([2, 3]))
            self.check_kept(joint)
            joint.lets(("", "a"))
            joint.some_word()
            self.check_kept(joint)

    def test_what_is_kept_is_kept_as_a_copy(self):
        """Point 2: whatever becomes of the machines that were handed in, the joint stays as it was made."""
        for name in JOINTS:
            one = nested_machine([1, 2])
            other = nested_machine([2, 3])
            joint = name(one, other)
            word = joint.some_word()
            one.steps[0][0] = 0
            one.ranks[0] = 8
            other.steps.pop()
            other.ranks.append(1)
            self.check_kept(joint)
            self.assertEqual(joint.some_word(), word)

    def test_a_joint_of_one_machine_keeps_it_twice(self):
        machine = nested_machine([1, 2])
        joint = Both(machine, machine)
        self.assertIsNot(joint.inner, joint.outer)
        self.assertIsNot(joint.inner, machine)

    def test_a_machine_with_itself(self):
        machine = nested_machine([1, 2])
        self.assertEqual(Both(machine, machine).some_word(), ("", "aa"))
        self.assertEqual(Nor(machine, machine).some_word(), ("", "b"))
        self.assertEqual(Either(machine, machine).some_word(), ("", "aa"))
        self.assertIsNone(Less(machine, machine).some_word())
        self.assertIsNone(Unlike(machine, machine).some_word())

    def test_unlike_numbers_of_letters(self):
        machines = [nested_machine([1, 2], letters) for letters in (1, 2, 3)]
        for one, other in product(machines, machines):
            if one.letters != other.letters:
                for name in JOINTS:
                    with self.assertRaises(OtherLetters) as caught:
                        name(one, other)
                    self.assertIs(caught.exception.__class__, OtherLetters)


class Lets(unittest.TestCase):
    def test_words(self):
        met = set()
        for one, other in twos():
            joints = [name(one, other) for name in JOINTS]
            for word in tellings_up_to(one.letters, 1, 3):
                answers = (lets_by_search(one, word), lets_by_search(other, word))
                for joint in joints:
                    truth = TRUTHS[joint.__class__][ANSWERS.index(answers)]
                    self.assertIs(joint.lets(word), truth, (one.steps, other.steps, word))
                    met.add((joint.__class__, truth))
        self.assertEqual(met, set(product(JOINTS, (True, False))))

    def test_all_tellings_alike(self):
        joint = Less(nested_machine([1, 2], 2), nested_machine([1, 1, 2], 2))
        tellings = [("", "ab"), ("ab", "ab"), ("a", "ba"), ("", "abab")]
        self.assertEqual([joint.lets(word) for word in tellings], [True] * 4)

    def test_no_endless_word_of_the_letters(self):
        two = nested_machine([1, 2], 2)
        things = odd_things() + [
            "a", "(a)", "", 0, 1, ("a", ""), ("", ""), ("a", "b", "a"), ["", "a"], ("c", "a"), ("a", "c"), ("A", "a"),
            ("a", None), (None, "a"), ("", ["a"]), ("a ", "a"), ("a", "d"), ("", 1),
        ]
        for name in JOINTS:
            for thing in things:
                with self.assertRaises(NoWord) as caught:
                    name(two, two).lets(thing)
                self.assertIs(caught.exception.__class__, NoWord)
            self.assertIsInstance(name(two, two).lets(("", "b")), bool)
            self.assertRaises(NoWord, name(nested_machine([1], 1), nested_machine([1], 1)).lets, ("", "b"))


class SomeWords(unittest.TestCase):
    def test_some_word(self):
        met = set()
        for one, other in twos():
            for name in JOINTS:
                joint = name(one, other)
                word = joint.some_word()
                met.add((name, word is None))
                self.assertEqual(word, wanted_word(one, other, TRUTHS[name]))
                if word is not None:
                    answers = (lets_by_search(one, word), lets_by_search(other, word))
                    self.assertTrue(TRUTHS[name][ANSWERS.index(answers)])
                    self.assertIs(joint.lets(word), True)
                else:
                    for short in tellings_up_to(one.letters, 1, 3):
                        self.assertIs(joint.lets(short), False)
        self.assertEqual(met, set(product(JOINTS, (True, False))))

    def test_told_words(self):
        one = Machine([[0, 1], [1, 1]], [0, 1])
        other = Machine([[1, 0], [1, 1]], [0, 1])
        told = [name(one, other).some_word() for name in JOINTS]
        self.assertEqual(told, [None, ("a", "a"), ("a", "a"), ("a", "a"), ("ab", "a")])
        self.assertEqual(Less(other, one).some_word(), ("b", "b"))

    def test_both_read_from_room_0(self):
        self.assertEqual(pairs_by_search(split_machine(), split_machine())[0], (0, 0))
        self.assertEqual(Both(split_machine(), split_machine()).some_word(), ("a", "aa"))


class Own(unittest.TestCase):
    def test_the_same_answer_each_time_and_of_a_twin(self):
        for one, other in twos():
            twins = [Machine(machine.steps, machine.ranks) for machine in (one, other)]
            for name in JOINTS:
                joint = name(one, other)
                word = joint.some_word()
                self.assertEqual(joint.some_word(), word)
                self.assertEqual(name(twins[0], twins[1]).some_word(), word)
            self.assertEqual((one.steps, one.ranks), (twins[0].steps, twins[0].ranks))
            self.assertEqual((other.steps, other.ranks), (twins[1].steps, twins[1].ranks))

    def test_lists_of_which_the_machines_were_made_may_be_changed(self):
        steps = [[1, 0], [1, 1]]
        ranks = [0, 1]
        joint = Nor(Machine(steps, ranks), Machine(steps, ranks))
        steps[0][1] = 1
        ranks[1] = 0
        self.assertEqual(joint.some_word(), ("a", "a"))


if __name__ == "__main__":
    unittest.main()
