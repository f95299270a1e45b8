import unittest
from itertools import combinations, product
from math import comb

import plain
from saidcounts.errors import BadLetter, BadPattern, SayError
from saidcounts.pairs import (
    disorder, disorder_said, disorder_tall, pairs_ahead, scattered, scattered_said, scattered_tall,
)
from wrong import CORES, NO_LETTERS, PATTERNS, RULES, TWO_TALL_GAPS, WORDS, check_errors, failure

GREAT = 10 ** 60
SMALL = plain.words_to(6) + plain.words_to(3, "abcd") + ["abcdabcd", "ddccbbaa", "cabbacd"]
PATTERNS_TO_FIND = plain.words_to(4)[1:] + ["abc", "dc", "cba", "ababab", "aaaaaa", "abcdab"]
RULES_TO_SAY = [(1,), (2,), (0,), (0, 1), (2, 0), (1, 3), (3, 0, 1), (0, 2, 1)]


def choices(word, pattern):
    """How many rising choices of places have the letters of the pattern, by trying them all."""
    return sum(1 for letters in combinations(word, len(pattern)) if "".join(letters) == pattern)


def inversions(word):
    """How many pairs of places have a later letter ahead of an earlier one, by trying them all."""
    return sum(1 for first, second in combinations(word, 2) if first > second)


class Scattered(unittest.TestCase):
    def test_examples(self):
        self.assertEqual(scattered("abab", "ab"), 3)
        self.assertEqual(scattered_said((2,), "ab", "ab"), 4)
        self.assertEqual(scattered_tall("a", (4,), "aa"), 6)

    def test_words(self):
        for word in SMALL:
            for pattern in PATTERNS_TO_FIND:
                self.assertEqual(scattered(word, pattern), choices(word, pattern), (word, pattern))

    def test_said_words(self):
        for rule in RULES_TO_SAY:
            for word in plain.words_to(4) + ["abcabc", "dcbdcb"]:
                said_word = plain.say(rule, word)
                for pattern in ("a", "b", "ab", "aa", "aab", "bab", "aaaa", "abcabc", "cb"):
                    self.assertEqual(scattered_said(rule, word, pattern), choices(said_word, pattern))

    def test_tall_words(self):
        for told, row, word in plain.tall_words(4, 3) + plain.tall_words(3, 2, "abc"):
            for pattern in ("a", "b", "ab", "aa", "aab", "bab", "aaaa", "bbaaaa", "cb"):
                self.assertEqual(scattered_tall(told, row, pattern), choices(word, pattern))

    def test_no_letters(self):
        self.assertEqual(scattered("", "a"), 0)
        self.assertEqual(scattered("aaaaa", "aaaaaa"), 0)
        self.assertEqual(scattered_said((0,), "abab", "ab"), 0)
        self.assertEqual(scattered_said((1,), "", "d"), 0)
        self.assertEqual(scattered_tall("", (), "abcdab"), 0)

    def test_great_words(self):
        self.assertEqual(scattered("a" * 2000, "aaaaaa"), comb(2000, 6))
        self.assertEqual(scattered("ab" * 1000, "ab"), 1000 * 1001 // 2)
        self.assertEqual(scattered_said((10 ** 6,), "a" * 2000, "aaaaaa"), comb(2 * 10 ** 9, 6))
        self.assertEqual(scattered_said((10 ** 6,), "abba", "aba"), 2 * 10 ** 18)
        self.assertEqual(scattered_tall("a", (GREAT,), "a"), GREAT)
        self.assertEqual(scattered_tall("a", (GREAT,), "aaaaaa"), comb(GREAT, 6))
        self.assertEqual(scattered_tall("aba", (GREAT, 1), "ab"), GREAT ** 2)
        self.assertEqual(scattered_tall("aba", (GREAT, GREAT), "aabbba"), comb(GREAT, 2) * comb(GREAT, 3) * GREAT)
        self.assertEqual(scattered_tall("aba", (1, GREAT), "ab"), 1)

    def test_errors(self):
        self.assertEqual(BadPattern.__bases__, (SayError,))
        check_errors(self, scattered, ["ab", "ab"], [WORDS, PATTERNS])
        check_errors(self, scattered_said, [(1, 2), "ab", "ab"], [RULES, WORDS, PATTERNS])
        check_errors(self, scattered_tall, ["aba", (2, 1), "ab"], [CORES, TWO_TALL_GAPS, PATTERNS])
        for pattern in ("abcdabc", "a" * 2000, "ax", ""):
            self.assertEqual(failure(scattered, ("ab", pattern)), (BadPattern, {}))


class PairsAndDisorder(unittest.TestCase):
    def test_examples(self):
        self.assertEqual(pairs_ahead("aab", "a", "b"), 2)
        self.assertEqual(disorder("bab"), 1)
        self.assertEqual(disorder_said((3,), "ba"), 9)
        self.assertEqual(disorder_tall("ba", (5,)), 25)

    def test_pairs(self):
        for word in SMALL:
            for one, other in product("abcd", repeat=2):
                self.assertEqual(pairs_ahead(word, one, other), choices(word, one + other))

    def test_a_letter_with_itself(self):
        self.assertEqual(pairs_ahead("aabaa", "a", "a"), 6)
        self.assertEqual(pairs_ahead("a", "a", "a"), 0)
        self.assertEqual(pairs_ahead("", "a", "b"), 0)

    def test_disorder(self):
        for word in SMALL:
            self.assertEqual(disorder(word), inversions(word))
            for rule in RULES_TO_SAY:
                self.assertEqual(disorder_said(rule, word), inversions(plain.say(rule, word)))
        for told, row, word in plain.tall_words(4, 3) + plain.tall_words(4, 2, "abcd")[::3]:
            self.assertEqual(disorder_tall(told, row), inversions(word))

    def test_great_words(self):
        self.assertEqual(pairs_ahead("ab" * 1000, "b", "a"), 999 * 1000 // 2)
        self.assertEqual(disorder("d" * 1000 + "c" * 1000), 10 ** 6)
        self.assertEqual(disorder("ab" * 1000), 999 * 1000 // 2)
        self.assertEqual(disorder_said((10 ** 6,), "d" * 1000 + "c" * 1000), 10 ** 18)
        self.assertEqual(disorder_said((0,), "dcba"), 0)
        self.assertEqual(disorder_tall("ba", (GREAT,)), GREAT ** 2)
        self.assertEqual(disorder_tall("dcba", (GREAT,)), 6 * GREAT ** 2)
        self.assertEqual(disorder_tall("", ()), 0)
        self.assertEqual(disorder(""), 0)

    def test_errors(self):
        self.assertEqual(BadLetter.__bases__, (SayError,))
        check_errors(self, pairs_ahead, ["ab", "a", "b"], [WORDS, NO_LETTERS, NO_LETTERS])
        check_errors(self, disorder, ["ab"], [WORDS])
        check_errors(self, disorder_said, [(1, 2), "ab"], [RULES, WORDS])
        check_errors(self, disorder_tall, ["aba", (2, 1)], [CORES, TWO_TALL_GAPS])


if __name__ == "__main__":
    unittest.main()
