"""Points 2, 8 and 81 to 86: learning settled machines by asking."""

import unittest
from random import Random

from helpers import (
    drawn_machines, is_settled_by_search, layered_machines, lets_by_search, loops_by_search, nested_machine, set_of,
    settled_machines, stretched, tellings_up_to, turning_machines, unfolded, wrong_words, written_out,
)
from looprank.errors import NoEnd
from looprank.learner import learn
from looprank.machines import Machine
from looprank.pairs import parting_word
from looprank.reach import rooms_reached
from looprank.smallest import smallest_form
from looprank.words import is_endless, shortest_telling

MOST_SHOWN = 40


class Watch:
    """The two functions of point 81 by a rule of endless words and one of guesses; all that goes by is written down."""

    def __init__(self, rule, tell):
        self.rule = rule
        self.tell = tell
        self.askings = []
        self.guesses = []

    def asked(self, word):
        self.askings.append((word, self.rule(word)))
        return self.askings[-1][1]

    def shown(self, guess):
        self.guesses.append((guess, guess.steps, guess.ranks))
        return self.tell(guess)


def teacher(machine, draw):
    """Who goes through all pairs of rooms and tells a drawn one of the words on which a guess is wrong."""

    def tell(guess):
        words = wrong_words(machine, guess)
        return stretched(draw.choice(words), draw, MOST_SHOWN) if words else None

    return Watch(machine.lets, tell)


def long_teacher(machine, draw):
    """Who tells a word with as many letters as may be told."""

    def tell(guess):
        words = wrong_words(machine, guess)
        if not words:
            return None
        front, cycle = draw.choice(words)
        front += cycle * ((MOST_SHOWN - len(front)) // len(cycle))
        return front, cycle * (MOST_SHOWN // len(cycle))

    return Watch(machine.lets, tell)


def parting_teacher(machine):
    return Watch(machine.lets, lambda guess: parting_word(machine, guess))


def searching_teacher(rule, tellings):
    """Who tells the first of these words on which a guess is wrong."""
    return Watch(rule, lambda guess: [word for word in tellings if guess.lets(word) != rule(word)][0])


def targets():
    """Settled machines of one to six rooms with one, two and three letters, drawn with a fixed seed."""
    return turning_machines(81, 270) + turning_machines(82, 270) + settled_machines(83, 150, 1, 6)


def longest_chain(letters=2):
    """Six rooms that are all unlike: a leads on, each other letter stays; good and bad by turns."""
    return Machine([[min(room + 1, 5)] + [room] * (letters - 1) for room in range(6)], [0, 1, 0, 1, 0, 1])


def counter(rooms, letters=2):
    """The first letters but one must be a, else no word is let by: as many classes as rooms."""
    steps = [[min(room + 1, rooms - 2)] + [rooms - 1] * (letters - 1) for room in range(rooms - 1)]
    steps[rooms - 2] = [rooms - 2] * letters
    return Machine(steps + [[rooms - 1] * letters], [1] * (rooms - 2) + [2, 3])


def ladder():
    """a stays in even rooms and b in odd ones, the other letter leads on: going round a and b by turns the machine
    settles only behind five turns."""
    return Machine([[0, 1], [2, 1], [2, 3], [4, 3], [4, 5], [5, 5]], [0, 1, 0, 1, 0, 1])


def patient(rooms, letters=2):
    """b must come again and again, one time fewer than there are rooms, until a leads to the good end and b stays."""
    steps = [[0, room + 1, room][:letters] for room in range(rooms - 2)]
    steps += [[rooms - 1, rooms - 2, rooms - 1][:letters], [rooms - 1] * letters]
    return Machine(steps, [2] * (rooms - 2) + [1, 0])


def edges():
    """One room and six, one class of many rooms, six classes of six rooms, and machines that must be asked about words
    that go often round two rounds by turns."""
    return [
        ladder(), ladder().opposite(), patient(3), patient(4), patient(5), patient(6), patient(6, 3),
        patient(6).opposite(),
        Machine([[0]], [0]), Machine([[0]], [1]), Machine([[0, 0]], [10 ** 30 - 1]), Machine([[0, 0, 0]], [4]),
        nested_machine([4] * 6), nested_machine([5] * 6), longest_chain(), longest_chain(3),
        longest_chain().opposite(), counter(6), counter(6, 3), counter(6).opposite(), counter(5), counter(3),
        Machine([[1], [2], [3], [4], [5], [0]], [0, 1, 2, 3, 4, 5]),
        Machine([[1, 0], [2, 1], [0, 3], [3, 4], [5, 4], [5, 5]], [2, 2, 2, 1, 0, 3]),
    ]


def round_parity(word):
    """The rule of no machine: the shortest round has an even number of letters."""
    return len(shortest_telling(word)[1]) % 2 == 0


def beginning_parity(word):
    return len(shortest_telling(word)[0]) % 2 == 0


def mixed_rule(word):
    beginning, cycle = shortest_telling(word)
    return (7 * len(beginning) + 5 * len(cycle) + 3 * cycle.count("b") + beginning.count("a")) % 3 == 0


def equal_counts(word):
    cycle = word[1]
    return cycle.count("a") == cycle.count("b")


def ring_rule(word):
    """Behind the last letter that is no b the count of a decides, by six; else whether c comes again and again."""
    beginning, cycle = shortest_telling(word)
    return beginning.count("a") % 6 == 0 if cycle == "b" else "c" not in cycle


def drawn_rule(seed, one_in):
    return lambda word: Random(repr((seed, shortest_telling(word)))).randrange(one_in) == 0


RULES = (round_parity, beginning_parity, mixed_rule, equal_counts)


class Learning(unittest.TestCase):
    def check_guesses(self, watch, many):
        """Point 83."""
        self.assertLessEqual(1, len(watch.guesses))
        self.assertLessEqual(len(watch.guesses), 6)
        rooms = 0
        for guess, steps, ranks in watch.guesses:
            self.assertIsInstance(guess, Machine)
            self.assertEqual(guess.letters, many)
            self.assertEqual((guess.steps, guess.ranks), (steps, ranks))
            self.assertLess(rooms, guess.many)
            rooms = guess.many
            self.assertLessEqual(rooms, 6)
            self.assertTrue(is_settled_by_search(guess))
            self.assertEqual([room for room, front in rooms_reached(guess)], list(range(guess.many)))
            self.check_ranks(guess)

    def check_ranks(self, guess):
        off = set(range(guess.many))
        for loop in loops_by_search(guess):
            off -= set_of(loop)
            self.assertIn(set([guess.ranks[room] for room in set_of(loop)]), ({0}, {1}))
        for room in off:
            self.assertEqual(guess.ranks[room], 1)

    def check_askings(self, watch, many):
        """Point 82: what was asked about."""
        words = [word for word, answer in watch.askings]
        self.assertEqual(len(words), len(set(words)))
        for word in words:
            self.assertTrue(is_endless(word, many))
            self.assertEqual(shortest_telling(word), word)
            self.assertLessEqual(len(word[0]), 5000)
            self.assertLessEqual(len(word[1]), 300)

    def check_learned(self, machine, watch):
        """Points 82 to 84."""
        told = learn(machine.letters, watch.asked, watch.shown)
        self.assertIsInstance(told, tuple)
        learned, guesses, askings = told
        form = smallest_form(machine)
        self.assertIsInstance(learned, Machine)
        self.assertEqual((learned.steps, learned.ranks), (form.steps, form.ranks))
        last = watch.guesses[-1][0]
        self.assertEqual((learned.steps, learned.ranks), (last.steps, last.ranks))
        self.assertIs(guesses.__class__, int)
        self.assertEqual(guesses, len(watch.guesses))
        self.assertLessEqual(guesses, form.many)
        self.assertIsInstance(askings, list)
        self.assertEqual(askings, watch.askings)
        for entry in askings:
            self.assertIsInstance(entry, tuple)
            self.assertIs(entry[1], lets_by_search(machine, entry[0]))
        self.check_guesses(watch, machine.letters)
        self.check_askings(watch, machine.letters)
        return learned

    def check_refused(self, many, watch):
        with self.assertRaises(NoEnd) as caught:
            learn(many, watch.asked, watch.shown)
        self.assertIs(caught.exception.__class__, NoEnd)
        self.check_guesses(watch, many)
        self.check_askings(watch, many)


class Learned(Learning):
    """Points 81 to 84."""

    def test_drawn_machines(self):
        draw = Random(84)
        met = set()
        longest = 0
        for machine in targets() + edges():
            with self.subTest(steps=machine.steps, ranks=machine.ranks):
                watch = teacher(machine, draw)
                learned = self.check_learned(machine, watch)
                met.add((machine.letters, learned.many))
                longest = max([longest] + [len(word[0]) for word, answer in watch.askings])
        # With one letter there is one endless word alone, so all machines are of one class.
        self.assertEqual(met, {(1, 1)} | {(letters, rooms) for letters in (2, 3) for rooms in range(1, 7)})
        self.assertGreater(longest, 60)

    def test_words_of_as_many_letters_as_may_be_told(self):
        draw = Random(85)
        for machine in turning_machines(84, 160, 3, 6) + edges():
            with self.subTest(steps=machine.steps, ranks=machine.ranks):
                self.check_learned(machine, long_teacher(machine, draw))

    def test_the_first_word_each_time(self):
        for machine in turning_machines(85, 160, 3, 6) + edges():
            with self.subTest(steps=machine.steps, ranks=machine.ranks):
                self.check_learned(machine, parting_teacher(machine))

    def test_machines_of_more_rooms_than_six_with_few_classes(self):
        draw = Random(86)
        for machine in turning_machines(87, 60, 1, 4):
            big = unfolded(machine, draw)
            self.check_learned(big, teacher(big, draw))

    def test_alike_machines_are_learned_alike(self):
        """Point 8: whoever learns such a machine ends with the smallest form, by whatever words."""
        draw = Random(87)
        for machine in turning_machines(88, 60, 4, 6):
            ends = [learn(machine.letters, watch.asked, watch.shown)[0]
                    for watch in (teacher(machine, draw), long_teacher(machine, draw), parting_teacher(machine))]
            self.assertEqual(len(set([repr((end.steps, end.ranks)) for end in ends])), 1)

    def test_none_at_once(self):
        for many in (1, 2, 3):
            for truth in (True, False):
                watch = Watch(lambda word: truth, lambda guess: None)
                machine, guesses, askings = learn(many, watch.asked, watch.shown)
                self.assertEqual((machine.steps, machine.ranks), ([[0] * many], [0 if truth else 1]))
                self.assertEqual(guesses, 1)
                self.assertEqual(askings, watch.askings)
                self.check_guesses(watch, many)

    def test_told_learning(self):
        for machine, steps, ranks in (
            (Machine([[2, 1], [1, 1], [2, 2]], [9, 1, 8]), [[1, 2], [1, 1], [2, 2]], [1, 0, 1]),
            (Machine([[1, 2], [3, 0], [1, 2], [3, 3]], [1, 3, 5, 2]), [[1, 0], [2, 0], [2, 2]], [1, 1, 0]),
            (longest_chain(), [[1, 0], [2, 1], [3, 2], [4, 3], [5, 4], [5, 5]], [0, 1, 0, 1, 0, 1]),
        ):
            learned = self.check_learned(machine, parting_teacher(machine))
            self.assertEqual((learned.steps, learned.ranks), (steps, ranks))

    def test_forty_letters_may_be_told(self):
        machine = longest_chain()
        for word in (("b" * 40, "a"), ("", "a" * 40), ("ab" * 20, "ba" * 20), ("a" * 40, "b" * 40)):
            words = [word]
            teach = teacher(machine, Random(40))

            def tell(guess):
                return words.pop() if words and guess.lets(word) != machine.lets(word) else teach.tell(guess)

            self.check_learned(machine, Watch(machine.lets, tell))
            self.assertEqual(words, [])


class Refused(Learning):
    """Point 86."""

    def test_seven_and_eight_classes(self):
        draw = Random(71)
        met = []
        drawn = [machine for machine in turning_machines(71, 700, 7, 8) + settled_machines(72, 300, 7, 8)
                 if smallest_form(machine).many > 6]
        for machine in drawn + [counter(7), counter(8), counter(7, 3), counter(8).opposite()]:
            met.append((machine.letters, smallest_form(machine).many))
            for watch in (teacher(machine, draw), long_teacher(machine, draw), parting_teacher(machine)):
                self.check_refused(machine.letters, watch)
        self.assertEqual(set(met), {(2, 7), (2, 8), (3, 7), (3, 8)})
        self.assertGreater(len(met), 20)

    def test_machines_that_are_not_settled(self):
        draw = Random(73)
        drawn = [machine for machine in drawn_machines(86, 200) + layered_machines(87, 200)
                 if not is_settled_by_search(machine)]
        self.assertGreater(len(drawn), 60)
        for machine in drawn + [nested_machine([1, 2]), nested_machine([2, 3], 2), nested_machine(list(range(8)))]:
            with self.subTest(steps=machine.steps, ranks=machine.ranks):
                self.check_refused(machine.letters, parting_teacher(machine))
                long = Watch(machine.lets, lambda guess: stretched(parting_word(machine, guess), draw, MOST_SHOWN))
                self.check_refused(machine.letters, long)

    def test_rules_of_no_machine(self):
        draw = Random(88)
        for rule in RULES:
            for many in (2, 3):
                tellings = tellings_up_to(many, 2, 4)
                self.check_refused(many, searching_teacher(rule, tellings))
                for turn in range(8):
                    draw.shuffle(tellings)
                    self.check_refused(many, searching_teacher(rule, tellings[:]))
                    long = [stretched(word, draw, MOST_SHOWN) for word in tellings]
                    self.check_refused(many, searching_teacher(lambda word: rule(shortest_telling(word)), long))

    def test_words_of_forty_letters_that_never_turn(self):
        """Six rooms in a ring, and rounds of forty letters that go round it six times: the longest words come that are
        to be asked about, and the bounds of point 82 hold still."""
        for cycle in ("a" + "c" * 39, "c" * 39 + "a", "a" * 5 + "cb" * 17 + "c"):
            for beginning in ("", "a", "b" * 35 + "a" * 5):
                short = searching_teacher(ring_rule, [("a" * count, "b") for count in range(12)])
                watch = Watch(ring_rule, lambda guess: short.tell(guess) if guess.many < 6 else (beginning, cycle))
                self.check_refused(3, watch)
                self.assertEqual(watch.guesses[-1][0].many, 6)
                self.assertGreater(max([len(word[0]) for word, answer in watch.askings]), 4300)

    def test_drawn_rules(self):
        draw = Random(89)
        for turn in range(120):
            many = 2 + turn % 2
            rule = drawn_rule(turn, (2, 5, 9)[turn % 3])
            tellings = [("".join(draw.choices("abc"[:many], k=draw.choice((0, 40)))),
                         "".join(draw.choices("abc"[:many], k=draw.choice((1, 3, 40))))) for number in range(300)]
            self.check_refused(many, searching_teacher(rule, tellings))

    def wrong_things(self):
        """What may be told of no guess, whatever the two letters' words are."""
        return [
            ["", "a"], ["b", "ab"], "(a)", "a", "", 0, 1, -1, 10 ** 30, 1.5, True, False, (), ("a",), ("a", "b", "a"),
            ("", "a", "b"), ("a", ""), ("", ""), ("", "c"), ("c", "a"), ("ab", "abc"), ("", "A"), ("", "a "),
            (None, "a"), ("a", None), ("", ["a"]), ("", 1), (0, "a"), {"": "a"}, b"a", (b"", b"a"), {"a"}, object(),
            len, (("", "a"),), ("a" * 41, "a"), ("a" * 41, "b"), ("b" * 41, "a"), ("", "a" * 41), ("", "b" * 41),
            ("", "ab" * 21), ("ab" * 20 + "a", "ba"), ("ab" * 21, "ab"), ("a" * 5000, "b"), ("", "b" * 300),
            ("b" * 41, "b" * 41), ("", "a" * 42), ("a" * 42, "a" * 42),
        ]

    def test_what_may_not_be_told_of_a_guess(self):
        for thing in self.wrong_things():
            for rule in (lambda word: True, lambda word: False, longest_chain().lets, lambda word: word[1] == "b"):
                watch = Watch(rule, lambda guess: thing)
                with self.subTest(thing=thing):
                    self.check_refused(2, watch)
                    self.assertEqual(len(watch.guesses), 1)

    def test_what_may_not_be_told_of_a_later_guess(self):
        machine = longest_chain()
        for number, thing in enumerate(self.wrong_things()):
            teach = teacher(machine, Random(number))
            at_first = 1 + number % 3
            watch = Watch(machine.lets, lambda guess: teach.tell(guess) if len(watch.guesses) <= at_first else thing)
            with self.subTest(thing=thing):
                self.check_refused(2, watch)
                self.assertEqual(len(watch.guesses), at_first + 1)

    def test_a_word_of_more_letters_than_the_two(self):
        for many, word in ((1, ("", "b")), (1, ("b", "a")), (2, ("", "c")), (2, ("c", "a")), (3, ("", "d"))):
            for truth in (True, False):
                watch = Watch(lambda asked: truth, lambda guess: word)
                self.check_refused(many, watch)
                self.assertEqual(len(watch.guesses), 1)

    def test_a_word_on_which_the_guess_is_right(self):
        """It is refused at once, also where more could be learned of the word."""
        draw = Random(91)
        for machine in turning_machines(90, 40, 3, 6) + [ladder(), patient(6)]:
            tellings = tellings_up_to(machine.letters, 2, 2)
            for most in (0, 1, 2):
                for start in range(0, len(tellings), 3):
                    teach = teacher(machine, draw)
                    last = []

                    def tell(guess):
                        if len(watch.guesses) <= most and wrong_words(machine, guess):
                            return teach.tell(guess)
                        right = [word for word in tellings if guess.lets(word) == machine.lets(word)]
                        last.append(guess)
                        return right[start % len(right)]

                    watch = Watch(machine.lets, tell)
                    self.check_refused(machine.letters, watch)
                    self.assertEqual(last, [watch.guesses[-1][0]])

    def test_the_same_word_of_each_guess(self):
        for word in (("", "a"), ("", "ab"), ("a", "b")):
            for machine in (longest_chain(), counter(6), longest_chain(3)):
                self.check_refused(machine.letters, Watch(machine.lets, lambda guess: word))

    def test_what_goes_wrong_elsewhere_is_not_taken(self):
        def broken(thing):
            raise KeyError("broken")

        self.assertRaises(KeyError, learn, 2, broken, lambda guess: None)
        self.assertRaises(KeyError, learn, 2, lambda word: True, broken)


class Own(Learning):
    """Point 2."""

    def test_lists_given_back_may_be_changed(self):
        machine = longest_chain()
        watch = parting_teacher(machine)
        learned, guesses, askings = learn(2, watch.asked, watch.shown)
        kept = repr((learned.steps, learned.ranks, guesses, askings))
        learned.steps[0][0] = 0
        learned.steps.pop()
        learned.ranks.clear()
        askings.clear()
        again = parting_teacher(machine)
        learned, guesses, askings = learn(2, again.asked, again.shown)
        self.assertEqual(repr((learned.steps, learned.ranks, guesses, askings)), kept)
        self.assertEqual((machine.steps, machine.ranks), (longest_chain().steps, longest_chain().ranks))

    def test_the_same_answer_each_time(self):
        for machine in turning_machines(92, 40) + edges():
            told = []
            for asked in (machine, machine, Machine(machine.steps, machine.ranks)):
                watch = parting_teacher(asked)
                learned, guesses, askings = learn(asked.letters, watch.asked, watch.shown)
                told.append((learned.steps, learned.ranks, guesses, askings))
            self.assertEqual(told, [told[0]] * 3)

    def test_learning_within_learning(self):
        """Two learners at once do not mix what they know."""
        outer = longest_chain()
        inner = counter(6)

        def asked(word):
            watch = parting_teacher(inner)
            learned = learn(2, watch.asked, watch.shown)[0]
            self.assertEqual((learned.steps, learned.ranks),
                             (smallest_form(inner).steps, smallest_form(inner).ranks))
            return outer.lets(word)

        learned = learn(2, asked, lambda guess: parting_word(outer, guess))[0]
        self.assertEqual((learned.steps, learned.ranks), (outer.steps, outer.ranks))

    def test_words_asked_about_are_of_the_letters_told(self):
        for many in (1, 2, 3):
            watch = Watch(lambda word: written_out(word, 3) == "aaa", lambda guess: None)
            learn(many, watch.asked, watch.shown)
            self.check_askings(watch, many)


if __name__ == "__main__":
    unittest.main()
