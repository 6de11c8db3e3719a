"""Points 4 and 11 to 16: words, endless words and their tellings."""

import unittest
from functools import cmp_to_key

from helpers import odd_things, tellings_up_to, words_up_to, written_out
from looprank.errors import NoWord
from looprank.words import (
    comes_ahead, first_unlike, is_endless, is_same, is_word, left_behind, letter_at, put_ahead, read_endless,
    shortest_telling, show_endless,
)

FAR = 10 ** 30
SAME_WORD = [("", "ab"), ("ab", "ab"), ("a", "ba"), ("", "abab")]
SMALL = tellings_up_to(1, 4, 4) + tellings_up_to(2, 3, 4) + tellings_up_to(3, 2, 2)
BAD_TEXTS = ["A", "d", "z", "aB", "a b", " ", "a ", " a", "ab\n", "\na", "a(b)", "(a)", "0", "1", "-", "a,b", "\u00e4",
             "a\u0430", "\x00", "bdb", "ccdcc"]


def slow_first_unlike(one, other):
    left = written_out(one, 40)
    right = written_out(other, 40)
    for place in range(40):
        if left[place] != right[place]:
            return place
    return None


class WordsTold(unittest.TestCase):
    """Point 11: what is a word."""

    def test_words_of_the_first_letters(self):
        for many in (1, 2, 3):
            for word in words_up_to("abcd", 4):
                self.assertIs(is_word(word, many), all(sign in "abc"[:many] for sign in word), (word, many))

    def test_the_empty_text_is_a_word(self):
        for many in (1, 2, 3):
            self.assertIs(is_word("", many), True)

    def test_texts_with_other_signs_are_no_words(self):
        for many in (1, 2, 3):
            for text in BAD_TEXTS:
                self.assertIs(is_word(text, many), False, (text, many))

    def test_things_of_other_kinds_are_no_words(self):
        for many in (1, 2, 3):
            for thing in odd_things() + [0, 1, ("", "a"), ["a", "b"]]:
                self.assertIs(is_word(thing, many), False, (thing, many))

    def test_long_words(self):
        self.assertIs(is_word("a" * 5000, 1), True)
        self.assertIs(is_word("ab" * 2500, 2), True)
        self.assertIs(is_word("ab" * 2500, 1), False)
        self.assertIs(is_word("a" * 2500 + "c" + "a" * 2499, 2), False)
        self.assertIs(is_word("a" * 2500 + "c" + "a" * 2499, 3), True)


class EndlessWordsTold(unittest.TestCase):
    """Point 11: what tells an endless word."""

    def test_tuples_of_two_words(self):
        for many in (1, 2, 3):
            for word in tellings_up_to(3, 2, 2):
                fits = all(sign in "abc"[:many] for sign in word[0] + word[1])
                self.assertIs(is_endless(word, many), fits, (word, many))

    def test_the_round_is_not_empty(self):
        for many in (1, 2, 3):
            self.assertIs(is_endless(("", ""), many), False)
            self.assertIs(is_endless(("a", ""), many), False)
            self.assertIs(is_endless(("", "a"), many), True)

    def test_a_list_is_no_tuple(self):
        self.assertIs(is_endless(["", "a"], 2), False)
        self.assertIs(is_endless(["a", "b"], 2), False)

    def test_tuples_of_other_lengths(self):
        for thing in [(), ("a",), ("a", "b", "a"), ("", "a", ""), ("a", "b", None), (("a", "b"),)]:
            self.assertIs(is_endless(thing, 3), False, thing)

    def test_things_of_other_kinds(self):
        for thing in odd_things() + [0, 1, "", "a", "ab", "a(b)", {"": 0, "a": 1}]:
            self.assertIs(is_endless(thing, 3), False, thing)

    def test_tuples_with_other_things_in_them(self):
        for thing in odd_things() + [0, 1] + BAD_TEXTS:
            self.assertIs(is_endless((thing, "a"), 3), False, thing)
            self.assertIs(is_endless(("", thing), 3), False, thing)
            self.assertIs(is_endless((thing, thing), 3), False, thing)

    def test_long_endless_words(self):
        self.assertIs(is_endless(("ab" * 2500, "ba" * 1000), 2), True)
        self.assertIs(is_endless(("ab" * 2500, "b" * 1999 + "c"), 2), False)
        self.assertIs(is_endless(("ab" * 2499 + "cb", "ba" * 1000), 2), False)


class Letters(unittest.TestCase):
    """Points 4 and 12: the letters and their places."""

    def test_letters_as_written_out(self):
        for word in SMALL:
            text = written_out(word, 15)
            self.assertEqual("".join([letter_at(word, place) for place in range(15)]), text, word)

    def test_all_tellings_have_the_same_letters(self):
        for word in SAME_WORD:
            self.assertEqual("".join([letter_at(word, place) for place in range(6)]), "ababab", word)

    def test_places_far_away(self):
        # 10 ** 30 leaves 1 when it is divided by 3, and 0 when divided by 2,000.
        self.assertEqual(letter_at(("", "abc"), FAR), "b")
        self.assertEqual(letter_at(("a", "abc"), FAR), "a")
        self.assertEqual(letter_at(("cb", "abc"), FAR), "c")
        self.assertEqual(letter_at(("", "a"), FAR), "a")
        self.assertEqual(letter_at(("", "b" + "a" * 1999), FAR), "b")
        self.assertEqual(letter_at(("", "b" + "a" * 1999), FAR - 1), "a")
        self.assertEqual(letter_at(("c" * 4000, "b" + "a" * 1999), FAR), "b")
        self.assertEqual(letter_at(("c" * 5000, "a" * 1000 + "b" + "a" * 999), FAR), "b")
        self.assertEqual(letter_at(("c" * 5000, "a" * 1000 + "b" + "a" * 999), FAR + 1), "a")

    def test_the_edge_between_beginning_and_round(self):
        word = ("a" * 4999 + "b", "c" + "a" * 1999)
        self.assertEqual([letter_at(word, place) for place in (4998, 4999, 5000, 5001)], ["a", "b", "c", "a"])
        self.assertEqual([letter_at(word, place) for place in (6999, 7000, 7001)], ["a", "c", "a"])


class FirstUnlike(unittest.TestCase):
    """Point 12: where two endless words differ first."""

    def test_as_written_out(self):
        words = tellings_up_to(1, 2, 2) + tellings_up_to(2, 2, 3) + [("c", "ab"), ("", "c"), ("ab", "cab")]
        for one in words:
            for other in words:
                self.assertEqual(first_unlike(one, other), slow_first_unlike(one, other), (one, other))

    def test_tellings_of_one_word_are_alike(self):
        for one in SAME_WORD:
            for other in SAME_WORD:
                self.assertIsNone(first_unlike(one, other))

    def test_place_nought_is_told_as_a_number(self):
        told = first_unlike(("", "a"), ("", "b"))
        self.assertEqual(told, 0)
        self.assertIs(type(told), int)

    def test_unlike_as_late_as_can_be(self):
        one = ("", "a" * 1998 + "b")
        other = ("", "a" * 1998 + "ba")
        self.assertEqual(first_unlike(one, other), 3997)
        self.assertEqual(first_unlike(other, one), 3997)
        self.assertEqual(first_unlike(("c" * 5000, one[1]), ("c" * 5000, other[1])), 8997)
        self.assertEqual(first_unlike(("c" * 5000 + one[1], one[1]), ("c" * 5000, other[1])), 8997)

    def test_long_words_that_are_alike(self):
        self.assertIsNone(first_unlike(("ab" * 2500, "ab" * 1000), ("", "ab")))
        self.assertIsNone(first_unlike(("c" + "ab" * 2499 + "a", "ba" * 1000), ("c", "ab" * 999)))
        self.assertEqual(first_unlike(("ab" * 2499 + "aa", "ab"), ("", "ab")), 4999)


class ShortestTellings(unittest.TestCase):
    """Points 4 and 13: the shortest telling, and whether two tell the same word."""

    def test_the_shortest_of_all_tellings(self):
        for many, longest in ((1, 3), (2, 3), (3, 2)):
            words = tellings_up_to(many, longest, longest)
            by_letters = {}
            for word in words:
                by_letters.setdefault(written_out(word, 20), []).append(word)
            for group in by_letters.values():
                wanted = min(group, key=lambda word: (len(word[1]), len(word[0])))
                for word in group:
                    self.assertEqual(shortest_telling(word), wanted, word)

    def test_its_two_marks(self):
        for word in SMALL:
            beginning, cycle = shortest_telling(word)
            for size in range(1, len(cycle)):
                self.assertFalse(len(cycle) % size == 0 and cycle == cycle[:size] * (len(cycle) // size), word)
            self.assertTrue(beginning == "" or beginning[-1] != cycle[-1], word)
            self.assertEqual(written_out((beginning, cycle), 20), written_out(word, 20))

    def test_it_is_a_telling(self):
        for word in SMALL[::7]:
            self.assertIs(type(shortest_telling(word)), tuple)
            self.assertTrue(is_endless(shortest_telling(word), 3))

    def test_the_tellings_of_the_document(self):
        for word in SAME_WORD:
            self.assertEqual(shortest_telling(word), ("", "ab"))

    def test_rounds_of_one_letter_and_told_several_times(self):
        self.assertEqual(shortest_telling(("", "a")), ("", "a"))
        self.assertEqual(shortest_telling(("aaa", "a")), ("", "a"))
        self.assertEqual(shortest_telling(("baa", "aa")), ("b", "a"))
        self.assertEqual(shortest_telling(("", "abaaba")), ("", "aba"))
        self.assertEqual(shortest_telling(("", "abab" + "a")), ("", "ababa"))

    def test_beginnings_that_end_as_the_round_ends(self):
        self.assertEqual(shortest_telling(("cb", "ab")), ("c", "ba"))
        self.assertEqual(shortest_telling(("cab", "ab")), ("c", "ab"))
        self.assertEqual(shortest_telling(("ccab", "bcab")), ("c", "cabb"))
        self.assertEqual(shortest_telling(("aab", "abab")), ("a", "ab"))

    def test_long_words(self):
        self.assertEqual(shortest_telling(("ab" * 2500, "ab" * 1000)), ("", "ab"))
        self.assertEqual(shortest_telling(("c" + "ab" * 2499 + "a", "ba" * 1000)), ("c", "ab"))
        self.assertEqual(shortest_telling(("a" * 5000, "a" * 2000)), ("", "a"))
        self.assertEqual(shortest_telling(("b" * 5000, "a" * 2000)), ("b" * 5000, "a"))
        prime = "a" * 1998 + "b"
        self.assertEqual(shortest_telling((prime * 2, prime)), ("", prime))
        self.assertEqual(shortest_telling((prime[1:] + prime, prime)), ("", "a" * 1997 + "ba"))
        twice = ("a" * 999 + "b") * 2
        self.assertEqual(shortest_telling(("", twice)), ("", "a" * 999 + "b"))

    def test_is_same_as_written_out(self):
        words = tellings_up_to(2, 2, 3) + [("c", "ab"), ("cab", "ab"), ("", "c"), ("c", "cc")]
        for one in words:
            for other in words:
                wanted = written_out(one, 20) == written_out(other, 20)
                self.assertIs(is_same(one, other), wanted, (one, other))

    def test_is_same_of_long_words(self):
        self.assertIs(is_same(("ab" * 2500, "ab" * 1000), ("a", "ba")), True)
        self.assertIs(is_same(("ab" * 2500, "ab" * 1000), ("b", "ba")), False)


class PutAheadAndLeftBehind(unittest.TestCase):
    """Point 14."""

    def test_put_ahead_as_written_out(self):
        for front in words_up_to("ab", 3) + ["c", "cab"]:
            for word in SMALL[::3]:
                told = put_ahead(front, word)
                self.assertEqual(written_out(told, 20), (front + written_out(word, 20))[:20], (front, word))
                self.assertEqual(told, shortest_telling(told))

    def test_the_empty_word_put_ahead(self):
        for word in SAME_WORD:
            self.assertEqual(put_ahead("", word), ("", "ab"))

    def test_put_ahead_is_told_shortest(self):
        self.assertEqual(put_ahead("b", ("", "ab")), ("", "ba"))
        self.assertEqual(put_ahead("ab", ("ab", "abab")), ("", "ab"))
        self.assertEqual(put_ahead("c", ("", "abab")), ("c", "ab"))

    def test_long_words_put_ahead(self):
        self.assertEqual(put_ahead("ab" * 2500, ("ab" * 2500, "ab" * 1000)), ("", "ab"))
        self.assertEqual(put_ahead("c" * 5000, ("b" * 5000, "a" * 2000)), ("c" * 5000 + "b" * 5000, "a"))

    def test_left_behind_as_written_out(self):
        for count in range(12):
            for word in SMALL[::3]:
                told = left_behind(word, count)
                self.assertEqual(written_out(told, 20), written_out(word, 20 + count)[count:], (word, count))
                self.assertEqual(told, shortest_telling(told))

    def test_no_letter_left_behind(self):
        for word in SAME_WORD:
            self.assertEqual(left_behind(word, 0), ("", "ab"))

    def test_left_behind_far_away(self):
        self.assertEqual(left_behind(("", "abc"), FAR), ("", "bca"))
        self.assertEqual(left_behind(("cb", "abc"), FAR), ("", "cab"))
        self.assertEqual(left_behind(("b", "a"), FAR), ("", "a"))
        self.assertEqual(left_behind(("", "b" + "a" * 1999), FAR), ("", "b" + "a" * 1999))
        self.assertEqual(left_behind(("c" * 5000, "a" * 1000 + "b" + "a" * 999), FAR), ("", "b" + "a" * 1999))

    def test_the_beginning_left_behind(self):
        word = ("c" * 5000, "ab" * 1000)
        self.assertEqual(left_behind(word, 4999), ("c", "ab"))
        self.assertEqual(left_behind(word, 5000), ("", "ab"))
        self.assertEqual(left_behind(word, 5001), ("", "ba"))

    def test_what_was_put_ahead_is_left_behind(self):
        for front in words_up_to("abc", 2):
            for word in SMALL[::5]:
                self.assertEqual(left_behind(put_ahead(front, word), len(front)), shortest_telling(word))


class Order(unittest.TestCase):
    """Point 15."""

    def test_by_each_of_the_rules(self):
        rising = [
            ("", "a"), ("", "b"), ("", "aa"), ("", "ab"), ("", "ba"), ("a", "a"), ("a", "b"), ("b", "a"),
            ("", "aaa"), ("a", "cc"), ("b", "aa"), ("aa", "c"), ("ab", "a"), ("", "aaaa"), ("abc", "a"),
        ]
        for place, one in enumerate(rising):
            for later, other in enumerate(rising):
                self.assertIs(comes_ahead(one, other), place < later, (one, other))

    def test_just_one_of_two_unlike_tellings_comes_ahead(self):
        words = tellings_up_to(2, 2, 3)
        for one in words:
            for other in words:
                self.assertIs(comes_ahead(one, other) != comes_ahead(other, one), one != other, (one, other))

    def test_it_is_one_row(self):
        words = tellings_up_to(3, 2, 2)
        row = sorted(words, key=cmp_to_key(lambda one, other: -1 if comes_ahead(one, other) else 1))
        for place, one in enumerate(row):
            for other in row[place + 1:]:
                self.assertTrue(comes_ahead(one, other), (one, other))
                self.assertLessEqual(len(one[0] + one[1]), len(other[0] + other[1]))

    def test_tellings_of_the_same_word(self):
        self.assertIs(comes_ahead(("", "ab"), ("a", "ba")), True)
        self.assertIs(comes_ahead(("a", "ba"), ("", "ab")), False)
        self.assertIs(comes_ahead(("", "abab"), ("ab", "ab")), True)
        self.assertIs(comes_ahead(("ab", "ab"), ("", "abab")), False)
        self.assertIs(comes_ahead(("ab", "ab"), ("ab", "ab")), False)

    def test_long_tellings(self):
        one = ("a" * 4999 + "b", "a" * 2000)
        self.assertIs(comes_ahead(("a" * 5000, "b" * 2000), one), True)
        self.assertIs(comes_ahead(one, ("a" * 4999 + "b", "a" * 1999 + "b")), True)
        self.assertIs(comes_ahead(("c" * 4999, "c" * 2000), one), True)
        self.assertIs(comes_ahead(one, one), False)


class ReadAndShown(unittest.TestCase):
    """Point 16."""

    def test_shown(self):
        self.assertEqual(show_endless(("ab", "cba")), "ab(cba)")
        self.assertEqual(show_endless(("", "a")), "(a)")
        self.assertEqual(show_endless(("ab", "abab")), "ab(abab)")

    def test_read(self):
        self.assertEqual(read_endless("ab(cba)", 3), ("ab", "cba"))
        self.assertEqual(read_endless("(a)", 1), ("", "a"))

    def test_read_is_not_made_shorter(self):
        self.assertEqual(read_endless("ab(abab)", 2), ("ab", "abab"))
        self.assertEqual(read_endless("aaa(aa)", 1), ("aaa", "aa"))

    def test_what_is_shown_is_read(self):
        for many in (1, 2, 3):
            for word in tellings_up_to(many, 2, 2):
                told = read_endless(show_endless(word), many)
                self.assertEqual(told, word)
                self.assertIs(type(told), tuple)

    def test_long_words(self):
        word = ("ab" * 2500, "cab" * 666)
        self.assertEqual(show_endless(word), "ab" * 2500 + "(" + "cab" * 666 + ")")
        self.assertEqual(read_endless(show_endless(word), 3), word)

    def test_letters_beyond_are_refused(self):
        for text, many in [("(b)", 1), ("b(a)", 1), ("(c)", 2), ("c(a)", 2), ("ab(abcb)", 2), ("(d)", 3), ("d(a)", 3)]:
            with self.assertRaises(NoWord):
                read_endless(text, many)

    def test_texts_that_are_not_written_so_are_refused(self):
        for text in ["", "a", "ab", "()", "a()", "(", ")", ")(", "a)", "(a", "(aa", "(ab", "a(b", "a(aab", "(aaa ", "(ab]", "ab)", "(a)b", "(a)(b)", "((a))",
                     "(a))", "((a)", "a(b)(c)", "a((b)", " (a)", "(a) ", "( a)", "(a )", "a (b)", "(a)\n", "\n(a)",
                     "(a\n)", "[a]", "{a}", "(A)", "A(a)", "a(b)c", "(a,b)", "a)b(", "a)(b)", "a(b))", "('', 'a')"]:
            for many in (1, 2, 3):
                with self.assertRaises(NoWord, msg=(text, many)):
                    read_endless(text, many)

    def test_things_of_other_kinds_are_refused(self):
        for thing in odd_things() + [0, 1, ("", "a"), ["(a)"], ("(a)",), b"(a)"]:
            with self.assertRaises(NoWord, msg=repr(thing)):
                read_endless(thing, 3)


class SameAnswers(unittest.TestCase):
    """Point 2: the same question has the same answer each time."""

    def test_asked_twice(self):
        for word in SMALL[::11]:
            for ask in (shortest_telling, show_endless, lambda one: left_behind(one, 7), lambda one: put_ahead("ca", one)):
                self.assertEqual(ask(word), ask((word[0], word[1])))


if __name__ == "__main__":
    unittest.main()
