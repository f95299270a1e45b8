import unittest
from collections import Counter
from itertools import combinations, product
from math import comb, factorial

import plain
from saidcounts.errors import BadCore, BadNumber, BadWord
from saidcounts.spreads import count_exact, count_within, count_words, rank_in_core, spread, word_in_core
from wrong import CORES, COUNTS_TOLD, MARKS_TOLD, WORDS, check_errors, failure, numbers

ROWS_OF_MARKS = [row for many in range(6) for row in combinations(range(1, 6), many)] + [(1, 8), tuple(range(1, 9))]


def marks_by_counts(most):
    """For each tuple of counts of letters with so great a sum: how many words with it have which marks."""
    found = {}
    for word in plain.words_to(most, "abcd"):
        told = tuple(word.count(letter) for letter in "abcd")
        found.setdefault(told, Counter())[tuple(plain.marks(word)[1:])] += 1
    return found


class Counts(unittest.TestCase):
    def test_examples(self):
        self.assertEqual(count_words((2, 1)), 3)
        self.assertEqual(count_within((2, 2), (2,)), 2)
        self.assertEqual(count_exact((2, 1), (1, 2)), 3)
        self.assertEqual(spread(3, 2), (0, 2, 6, 0))

    def test_all_small_words(self):
        for told, found in marks_by_counts(6).items():
            rows = [told[:many] for many in (1, 2, 3, 4) if not any(told[many:])]
            for row in rows:
                self.assertEqual(count_words(row), sum(found.values()))
                for marks in ROWS_OF_MARKS:
                    within = sum(many for other, many in found.items() if set(other) <= set(marks))
                    self.assertEqual(count_within(row, marks), within, (row, marks))
                    self.assertEqual(count_exact(row, marks), found[marks], (row, marks))

    def test_no_letters(self):
        for told in ((0,), (0, 0), (0, 0, 0, 0)):
            self.assertEqual(count_words(told), 1)
            self.assertEqual(count_within(told, ()), 1)
            self.assertEqual(count_within(told, (1, 8)), 1)
            self.assertEqual(count_exact(told, ()), 1)
            self.assertEqual(count_exact(told, (1,)), 0)
        self.assertEqual(count_within((1,), ()), 0)
        self.assertEqual(count_exact((1,), ()), 0)

    def test_four_eights(self):
        told = (8, 8, 8, 8)
        self.assertEqual(count_words(told), factorial(32) // factorial(8) ** 4)
        self.assertEqual(count_within(told, tuple(range(1, 9))), count_words(told))
        self.assertEqual(count_within(told, (8,)), 24)
        self.assertEqual(count_exact(told, (8,)), 24)
        self.assertEqual(count_within(told, (3, 8)), factorial(8) // 2 ** 4)
        self.assertEqual(count_exact(told, (3, 8)), factorial(8) // 2 ** 4 - 24)
        self.assertEqual(count_within(told, tuple(range(1, 8))), 0)
        rows = [(8,) if not lot else lot + (8,) for many in range(8) for lot in combinations(range(1, 8), many)]
        self.assertEqual(sum(count_exact(told, row) for row in rows), count_words(told))

    def test_counts_errors(self):
        check_errors(self, count_words, [(2, 1)], [COUNTS_TOLD])
        for call in (count_within, count_exact):
            check_errors(self, call, [(2, 1), (1, 2)], [COUNTS_TOLD, MARKS_TOLD])


class Spreads(unittest.TestCase):
    def test_all_words(self):
        for many, most in ((1, 10), (2, 9), (3, 6), (4, 5)):
            for size in range(most + 1):
                words = ["".join(row) for row in product("abcd"[:many], repeat=size)]
                found = Counter(len(plain.gaps(word)) for word in words)
                self.assertEqual(spread(size, many), tuple(found[level] for level in range(size + 1)), (size, many))

    def test_sizes_of_none_and_of_ten(self):
        self.assertEqual([spread(0, many) for many in (1, 2, 3, 4)], [(1,)] * 4)
        self.assertEqual(spread(10, 1), (0, 1) + (0,) * 9)
        self.assertEqual(spread(1, 4), (0, 4))
        for many in (1, 2, 3, 4):
            self.assertEqual(sum(spread(10, many)), many ** 10)
            self.assertEqual(len(spread(10, many)), 11)
        # With one level there is one run, or there are two of five letters each.
        self.assertEqual(spread(10, 4)[1], 4 + 4 * 3)
        self.assertEqual(spread(10, 4)[9:], (0, 0))

    def test_errors(self):
        check_errors(self, spread, [3, 2], [numbers(0, 10), numbers(1, 4)])


class Ranks(unittest.TestCase):
    def test_examples(self):
        self.assertEqual(rank_in_core("aabba"), 1)
        self.assertEqual(word_in_core("aba", 5, 1), "aabba")

    def test_all_words_of_a_core(self):
        for letters, most in (("ab", 9), ("abc", 6), ("abcd", 5)):
            found = {}
            for word in plain.words_to(most, letters):
                found.setdefault((plain.core(word), len(word)), []).append(word)
            for (core, size), words in found.items():
                words = sorted(words, key=plain.gaps)
                for rank, word in enumerate(words):
                    self.assertEqual(rank_in_core(word), rank, word)
                    self.assertEqual(word_in_core(core, size, rank), word)
                for rank in (len(words), len(words) + 1, 10 ** 60):
                    self.assertIsNone(word_in_core(core, size, rank))

    def test_lengths_that_no_word_has(self):
        self.assertIsNone(word_in_core("ab", 5, 0))
        self.assertIsNone(word_in_core("ab", 0, 0))
        self.assertIsNone(word_in_core("aba", 2, 0))
        self.assertIsNone(word_in_core("ab" * 1000, 200, 0))
        self.assertIsNone(word_in_core("", 1, 0))
        self.assertEqual(word_in_core("", 0, 0), "")
        self.assertIsNone(word_in_core("", 0, 1))
        self.assertEqual(rank_in_core(""), 0)

    def test_two_hundred_letters_and_more(self):
        self.assertEqual(rank_in_core("a" * 200), 0)
        self.assertEqual(rank_in_core("ab" * 100), 0)
        self.assertEqual(word_in_core("a", 200, 0), "a" * 200)
        self.assertEqual(word_in_core("ab" * 100, 200, 0), "ab" * 100)
        self.assertEqual(failure(rank_in_core, ("a" * 201,)), (BadNumber, {}))
        self.assertEqual(failure(rank_in_core, ("a" * 200 + "e",)), (BadWord, {"place": 200}))
        self.assertEqual(failure(word_in_core, ("a", 201, 0)), (BadNumber, {}))
        self.assertEqual(failure(word_in_core, ("aa", 201, 0)), (BadCore, {}))
        core = "ab" * 50
        many = comb(99, 49)
        last = word_in_core(core, 200, many - 1)
        self.assertEqual(plain.gaps(last), (51,) + (1,) * 49)
        self.assertIsNone(word_in_core(core, 200, many))
        for rank in (0, 1, 12345, many // 3, many - 1):
            word = word_in_core(core, 200, rank)
            self.assertEqual((len(word), plain.core(word), rank_in_core(word)), (200, core, rank))

    def test_errors(self):
        long_words = [("a" * 201, BadNumber()), ("abcd" * 500, BadNumber())]
        check_errors(self, rank_in_core, ["aabba"], [WORDS + long_words])
        check_errors(self, word_in_core, ["aba", 5, 1], [CORES, numbers(0, 200), numbers(0)])


if __name__ == "__main__":
    unittest.main()
