import unittest
from itertools import groupby, product

import plain
from plain import words_to
from saidcounts.errors import BadCore, BadGaps, BadWord, SayError, TooLong
from saidcounts.marks import core, from_gaps, gaps, is_core, level_of, level_words, marks, runs, widest
from wrong import CORES, TWO_GAPS, WORDS, check_errors, failure, numbers

WORDS_HERE = words_to(7) + words_to(4, "abcd") + ["abcddcba", "aabbccddaabb", "a" * 2000, "ab" * 1000, "aab" * 300]


class Errors(unittest.TestCase):
    def test_each_is_a_direct_subclass(self):
        for error in (BadCore, BadGaps):
            self.assertEqual(error.__bases__, (SayError,))


class Runs(unittest.TestCase):
    def test_examples(self):
        self.assertEqual(runs("aab"), (("a", 2), ("b", 1)))
        self.assertEqual(runs(""), ())

    def test_pieces(self):
        for word in WORDS_HERE:
            self.assertEqual(runs(word), tuple((letter, len(list(piece))) for letter, piece in groupby(word)))

    def test_errors(self):
        check_errors(self, runs, ["ab"], [WORDS])


class MarksAndGaps(unittest.TestCase):
    def test_examples(self):
        self.assertEqual(marks("aabba"), (0, 2, 3))
        self.assertEqual(gaps("aabba"), (2, 1))
        self.assertEqual(marks(""), (0,))
        self.assertEqual(gaps(""), ())
        self.assertEqual(gaps("a" * 2000), (2000,))

    def test_ends_of_runs(self):
        for word in WORDS_HERE:
            self.assertEqual(marks(word), tuple(plain.marks(word)))
            self.assertEqual(gaps(word), plain.gaps(word))

    def test_errors(self):
        for call in (marks, gaps):
            check_errors(self, call, ["ab"], [WORDS])


class Cores(unittest.TestCase):
    def test_examples(self):
        self.assertEqual(core("aabba"), "aba")
        self.assertEqual(core("aaabbaa"), "aaba")
        self.assertEqual(core(""), "")
        self.assertFalse(is_core("aabb"))

    def test_indexes(self):
        for word in WORDS_HERE:
            self.assertEqual(core(word), plain.core(word))

    def test_is_core(self):
        for word in WORDS_HERE:
            self.assertIs(is_core(word), plain.core(word) == word)
            self.assertIs(is_core(core(word)), True)

    def test_long_core(self):
        self.assertIs(is_core("ab" * 1000), True)
        self.assertIs(is_core("aabb" * 500), False)

    def test_errors(self):
        for call in (core, is_core):
            check_errors(self, call, ["ab"], [WORDS])


class FromGaps(unittest.TestCase):
    def test_examples(self):
        self.assertEqual(from_gaps("aba", (2, 1)), "aabba")
        self.assertEqual(from_gaps("", ()), "")

    def test_back_from_core_and_gaps(self):
        for word in WORDS_HERE:
            self.assertEqual(from_gaps(core(word), gaps(word)), word)

    def test_the_word_has_the_core_and_the_gaps(self):
        for word in [word for word in words_to(5) + ["abcd", "dcdb", "abcabd"] if plain.core(word) == word]:
            for told in product((1, 2, 4), repeat=len(plain.gaps(word))):
                found = from_gaps(word, told)
                self.assertEqual((plain.core(found), plain.gaps(found)), (word, told))

    def test_limits(self):
        self.assertEqual(from_gaps("a", (20000,)), "a" * 20000)
        self.assertEqual(from_gaps("ab", (10000,)), "a" * 10000 + "b" * 10000)
        self.assertEqual(failure(from_gaps, ("a", (20001,))), (TooLong, {"most": 20000}))
        self.assertEqual(failure(from_gaps, ("ab", (10001,))), (TooLong, {"most": 20000}))
        self.assertEqual(failure(from_gaps, ("aba", (10 ** 70, 1))), (TooLong, {"most": 20000}))
        self.assertEqual(from_gaps("ab" * 1000, (10,) * 1000), ("a" * 10 + "b" * 10) * 1000)
        self.assertEqual(failure(from_gaps, ("ab" * 1000, (10,) * 999 + (11,))), (TooLong, {"most": 20000}))

    def test_errors(self):
        check_errors(self, from_gaps, ["aba", (2, 1)], [CORES, TWO_GAPS])

    def test_the_empty_core_has_no_gaps(self):
        self.assertEqual(failure(from_gaps, ("", (1,))), (BadGaps, {}))
        self.assertEqual(failure(from_gaps, ("", [])), (BadGaps, {}))

    def test_a_wrong_argument_comes_before_a_long_answer(self):
        self.assertEqual(failure(from_gaps, ("aa", (20001,))), (BadCore, {}))
        self.assertEqual(failure(from_gaps, ("aba", (20001, 0))), (BadGaps, {}))
        self.assertEqual(failure(from_gaps, ("aax", 1)), (BadWord, {"place": 2}))


class Levels(unittest.TestCase):
    def test_examples(self):
        self.assertEqual(level_of("aabba", 4), 2)
        self.assertEqual(level_words("aabba"), ("aabb", "a"))
        self.assertEqual(level_words(""), ())

    def test_marks_that_are_less(self):
        for word in WORDS_HERE:
            told = plain.marks(word)
            lots = ["" for gap in plain.gaps(word)]
            for place in range(min(len(word), 40)):
                number = word[:place + 1].count(word[place])
                level = sum(mark < number for mark in told)
                self.assertEqual(level_of(word, place), level)
                lots[level - 1] += word[place]
            if len(word) <= 40:
                self.assertEqual(level_words(word), tuple(lots))

    def test_long_words(self):
        self.assertEqual(level_words("ab" * 1000), ("ab",) * 1000)
        self.assertEqual(level_words("a" * 2000), ("a" * 2000,))
        self.assertEqual(level_of("ab" * 1000, 1999), 1000)

    def test_places_that_the_word_has_not(self):
        self.assertIsNone(level_of("", 0))
        self.assertIsNone(level_of("aab", 3))
        self.assertIsNone(level_of("aab", 10 ** 70))
        self.assertEqual(level_of("aab", 2), 1)

    def test_errors(self):
        check_errors(self, level_of, ["ab", 0], [WORDS, numbers(0)])
        check_errors(self, level_words, ["ab"], [WORDS])


class Widest(unittest.TestCase):
    def test_first_of_the_greatest(self):
        self.assertEqual(widest("aabba"), (1, 2))
        self.assertIsNone(widest(""))
        self.assertEqual(widest("ab" * 1000), (1, 1))
        for word in WORDS_HERE:
            pairs = [(level, gap) for level, gap in enumerate(plain.gaps(word), 1)]
            self.assertEqual(widest(word), max(pairs, key=lambda pair: pair[1], default=None))

    def test_errors(self):
        check_errors(self, widest, ["ab"], [WORDS])


if __name__ == "__main__":
    unittest.main()
