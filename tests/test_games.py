import unittest
from functools import lru_cache
from itertools import product

import plain
from saidcounts.errors import BadNumber, BadWord
from saidcounts.games import (
    good_turns, moves, moves_up, nim, nim_few, nim_sum, nim_up, wins, wins_any, wins_last,
)
from wrong import WORDS, check_errors, failure, numbers, word_tuples

SMALL = plain.words_to(8) + plain.words_to(4, "abcd") + ["aaabbbccc", "aabaacaab", "aaaabbbbaaaabb", "abcdaabbccdd"]
SIDE_BY_SIDE = ["", "a", "aa", "aaa", "aaaa", "aab", "aabb", "abaa", "aaabaa"]


@lru_cache(maxsize=None)
def turns(word):
    """The words that a turn makes, by the level, then by the gap."""
    row = plain.gaps(word)
    core = plain.core(word)
    return [
        plain.with_gaps(core, row[:index] + (left,) + row[index + 1:])
        for index, gap in enumerate(row) for left in range(1, gap)
    ]


@lru_cache(maxsize=None)
def turns_up(word, bound):
    """The words that a turn makes that lets one gap grow, by the level, then by the gap."""
    row = plain.gaps(word)
    core = plain.core(word)
    return [
        plain.with_gaps(core, row[:index] + (more,) + row[index + 1:])
        for index, gap in enumerate(row) for more in range(gap + 1, bound + 1)
    ]


def least_missing(numbers_there):
    return min(set(range(len(numbers_there) + 1)) - set(numbers_there))


@lru_cache(maxsize=None)
def nim_by_turns(word):
    return least_missing([nim_by_turns(other) for other in turns(word)])


@lru_cache(maxsize=None)
def nim_by_turns_up(word, bound):
    return least_missing([nim_by_turns_up(other, bound) for other in turns_up(word, bound)])


@lru_cache(maxsize=None)
def nim_by_few(word, most):
    others = [other for other in turns(word) if max_loss(word, other) <= most]
    return least_missing([nim_by_few(other, most) for other in others])


def max_loss(word, other):
    return max(high - low for low, high in zip(plain.gaps(other), plain.gaps(word)))


def all_turns(words):
    """The tuples of words that a turn makes of some words, with the index and the word that it becomes."""
    return [
        (index, other, words[:index] + (other,) + words[index + 1:])
        for index, word in enumerate(words) for other in turns(word)
    ]


@lru_cache(maxsize=None)
def wins_by_turns(words, without_turn):
    """Whether who is to turn wins, if without a turn this is as told."""
    there = all_turns(words)
    if not there:
        return without_turn
    return any(not wins_by_turns(left, without_turn) for index, word, left in there)


@lru_cache(maxsize=None)
def wins_by_any(word):
    """Whether who is to turn wins, if a turn makes any other unsaying."""
    core = plain.core(word)
    rows = product(*[range(1, gap + 1) for gap in plain.gaps(word)])
    others = [other for other in [plain.with_gaps(core, row) for row in rows] if other != word]
    return any(not wins_by_any(other) for other in others)


class OneWord(unittest.TestCase):
    def test_examples(self):
        self.assertEqual(moves("aaa"), ["a", "aa"])
        self.assertEqual(nim("aaa"), 2)

    def test_moves(self):
        for word in SMALL:
            self.assertEqual(moves(word), turns(word))

    def test_nim(self):
        for word in SMALL:
            self.assertEqual(nim(word), nim_by_turns(word))

    def test_words_without_a_turn(self):
        for word in ("", "a", "ab", "abab", "abcd" * 500):
            self.assertEqual(moves(word), [])
            self.assertEqual(nim(word), 0)

    def test_great_words(self):
        self.assertEqual(moves("a" * 2000), ["a" * size for size in range(1, 2000)])
        self.assertEqual(nim("a" * 2000), 1999)
        word = plain.with_gaps("abac", (400, 300))
        self.assertEqual(nim(word), 399 ^ 299)
        self.assertEqual(len(moves(word)), 399 + 299)
        self.assertEqual(moves(word)[399], plain.with_gaps("abac", (400, 1)))

    def test_lists_are_new(self):
        moves("aaa").clear()
        self.assertEqual(moves("aaa"), ["a", "aa"])

    def test_errors(self):
        for call in (moves, nim, wins_any):
            check_errors(self, call, ["aab"], [WORDS])


class SideBySide(unittest.TestCase):
    def test_examples(self):
        self.assertEqual(nim_sum(("aa", "aa")), 0)
        self.assertIs(wins(("aab", "aa")), True)
        self.assertEqual(good_turns(("aaa", "aa")), [(0, "aa")])
        self.assertIs(wins_last(("aa",)), False)

    def check(self, words):
        sum_there = 0
        for word in words:
            sum_there ^= nim_by_turns(word)
        self.assertEqual(nim_sum(words), sum_there)
        self.assertIs(wins(words), wins_by_turns(words, False), words)
        self.assertIs(wins_last(words), wins_by_turns(words, True), words)
        good = [(index, other) for index, other, left in all_turns(words) if not wins_by_turns(left, False)]
        self.assertEqual(good_turns(words), good, words)

    def test_one_two_and_three_words(self):
        for many in (1, 2, 3):
            for words in product(SIDE_BY_SIDE, repeat=many):
                self.check(words)
        for word in SMALL:
            self.check((word,))

    def test_six_words(self):
        self.check(("a", "aa", "aa", "aaa", "", "aaba"))
        self.check(("aa",) * 6)
        self.check(("aa",) * 5 + ("aaa",))
        self.check(("",) * 6)
        for call in (nim_sum, wins, good_turns, wins_last):
            self.assertEqual(failure(call, (("a",) * 7,)), (BadNumber, {}))
            self.assertEqual(failure(call, ((),)), (BadNumber, {}))

    def test_no_turn(self):
        for words in (("",), ("a",), ("ab", "aba")):
            self.assertIs(wins(words), False)
            self.assertIs(wins_last(words), True)
            self.assertEqual(good_turns(words), [])

    def test_great_words(self):
        words = ("a" * 2000, "b" * 1500, "cd" * 800)
        self.assertEqual(nim_sum(words), 1999 ^ 1499)
        self.assertEqual(good_turns(words), [(0, "a" * 1500)])
        self.assertEqual(good_turns(("a" * 2000, "b" * 2000)), [])
        self.assertEqual(good_turns(("a" * 2000,) * 5 + ("aab",)), [(index, "a") for index in range(5)])
        self.assertEqual(good_turns(("a" * 2000, "aabb", "c" * 1999)), [])

    def test_lists_are_new(self):
        good_turns(("aaa", "aa")).clear()
        self.assertEqual(good_turns(("aaa", "aa")), [(0, "aa")])

    def test_errors(self):
        for call in (nim_sum, wins, good_turns, wins_last):
            check_errors(self, call, [("aab", "aa")], [word_tuples(6)])


class OtherTurns(unittest.TestCase):
    def test_examples(self):
        self.assertEqual(nim_up("a", 3), 2)
        self.assertEqual(moves_up("a", 3), ["aa", "aaa"])
        self.assertEqual(nim_few("aaaa", 2), 0)
        self.assertIs(wins_any("aabb"), True)

    def test_up(self):
        for word in plain.words_to(5) + ["abc", "aabc", "abca", "ccaac"]:
            least = max(plain.gaps(word), default=1)
            for bound in range(least, 5):
                self.assertEqual(moves_up(word, bound), turns_up(word, bound))
                self.assertEqual(nim_up(word, bound), nim_by_turns_up(word, bound), (word, bound))
            for bound in range(least):
                self.assertEqual(failure(nim_up, (word, bound)), (BadNumber, {}))
                self.assertEqual(failure(moves_up, (word, bound)), (BadNumber, {}))

    def test_bounds_of_one_and_of_two_thousand(self):
        for bound in (1, 2000):
            self.assertEqual(nim_up("", bound), 0)
            self.assertEqual(moves_up("", bound), [])
        self.assertEqual(nim_up("abab", 1), 0)
        self.assertEqual(moves_up("abab", 1), [])
        self.assertEqual(nim_up("a" * 2000, 2000), 0)
        self.assertEqual(moves_up("a" * 1999, 2000), ["a" * 2000])
        self.assertEqual(failure(nim_up, ("a" * 2000, 1999)), (BadNumber, {}))
        self.assertEqual(failure(moves_up, ("aabb", 1)), (BadNumber, {}))
        self.assertEqual(nim_up("aba", 2000), 0)
        self.assertEqual(nim_up("aabba", 2000), 1998 ^ 1999)
        found = moves_up("aba", 2000)
        self.assertEqual(len(found), 2 * 1999)
        self.assertEqual(found[1998], "a" * 2000 + "b" * 2000 + "a")
        self.assertEqual(found[-1], "ab" + "a" * 2000)
        self.assertEqual(nim_up("a" * 1000 + "b" * 1000, 2000), 1000)
        self.assertEqual(len(moves_up("ab" * 1000, 2)), 1000)

    def test_few(self):
        for word in SMALL:
            for most in (1, 2, 3, 4, 9):
                self.assertEqual(nim_few(word, most), nim_by_few(word, most), (word, most))
        self.assertEqual(nim_few("a" * 2000, 2000), 1999)
        self.assertEqual(nim_few("a" * 2000, 1999), 1999)
        self.assertEqual(nim_few("a" * 2000, 1998), 0)
        self.assertEqual(nim_few("a" * 2000, 1), 1)
        self.assertEqual(nim_few("", 1), 0)

    def test_any(self):
        for word in SMALL:
            self.assertIs(wins_any(word), wins_by_any(word), word)
        self.assertIs(wins_any("ab" * 1000), False)
        self.assertIs(wins_any("ab" * 999 + "aa"), True)

    def test_lists_are_new(self):
        moves_up("a", 3).clear()
        self.assertEqual(len(moves_up("a", 3)), 2)

    def test_errors(self):
        for call in (nim_up, moves_up):
            check_errors(self, call, ["aabb", 5], [WORDS, numbers(1, 2000) + [(1, BadNumber())]])
        check_errors(self, nim_few, ["aab", 5], [WORDS, numbers(1, 2000)])
        self.assertEqual(failure(nim_up, ("aaex", 1)), (BadWord, {"place": 2}))


if __name__ == "__main__":
    unittest.main()
