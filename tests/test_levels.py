import unittest
from itertools import chain, combinations, product
from math import comb

import plain
from saidcounts.errors import BadCore, BadLevels, BadNumber, BadWord, SayError, TooLong, TooMany
from saidcounts.levels import (
    any_rule, cores_below, count_any, count_undo, falls, is_said, least_levels, taken_out, undo, undoings, ways_below,
)
from saidcounts.marks import from_gaps
from wrong import CORES, LEVELS_OF_TWO, RULES, WORDS, check_errors, failure, numbers

SMALL = plain.words_to(6) + plain.words_to(3, "abcd") + ["abacaba", "abcabcab", "aabbccabc", "abaccaa"]
SMALL_RULES = [rule for many in (1, 2, 3) for rule in product((0, 1, 2), repeat=many)]
TEN = "ab" * 10
ELEVEN = "ab" * 11


def lots(word):
    """All lots of levels of a word."""
    levels = range(1, len(plain.gaps(word)) + 1)
    return list(chain(*[combinations(levels, many) for many in range(len(levels) + 1)]))


class Levels(unittest.TestCase):
    def test_examples(self):
        self.assertEqual(taken_out("aabba", (1,)), "a")
        self.assertEqual(falls((0, 1), "aba"), (1,))

    def test_taken_out(self):
        for word in SMALL:
            for lot in lots(word):
                self.assertEqual(taken_out(word, lot), plain.left_without(word, lot), (word, lot))

    def test_no_level_and_all_levels(self):
        for word in ("", "a", "aabba", "ab" * 1000):
            self.assertEqual(taken_out(word, ()), word)
            self.assertEqual(taken_out(word, tuple(range(1, len(plain.gaps(word)) + 1))), "")
        self.assertEqual(failure(taken_out, ("", (1,))), (BadLevels, {}))

    def test_falls(self):
        for word in SMALL:
            marks = plain.marks(word)
            for rule in SMALL_RULES:
                told = [rule[min(number, len(rule)) - 1] for number in range(1, marks[-1] + 1)]
                expected = [
                    level for level in range(1, len(marks)) if not any(told[marks[level - 1]:marks[level]])
                ]
                self.assertEqual(falls(rule, word), tuple(expected))

    def test_limits_of_falls(self):
        self.assertEqual(falls((0,), "ab" * 1000), tuple(range(1, 1001)))
        self.assertEqual(falls((10 ** 6,), "ab" * 1000), ())
        self.assertEqual(falls((0,), ""), ())
        self.assertEqual(falls((1, 0), "aabba"), (2,))
        self.assertEqual(falls((0, 1, 0), "aabba"), (2,))

    def test_errors(self):
        self.assertEqual(BadLevels.__bases__, (SayError,))
        for word in ("aabba", "aba"):
            check_errors(self, taken_out, [word, (1,)], [WORDS, LEVELS_OF_TWO])
        check_errors(self, falls, [(1, 2), "aba"], [RULES, WORDS])


class Cores(unittest.TestCase):
    def test_examples(self):
        self.assertEqual(cores_below("aba"), ["", "a", "ab", "aba"])
        self.assertEqual(ways_below("aba", "a"), 1)
        self.assertEqual(least_levels("aba", "ab"), (2,))

    def test_all_lots(self):
        cores = plain.cores_to(6) + plain.cores_to(5, "abc") + ["abacaba", "abcabcab", "abacadabacad"]
        for one in cores:
            found = {}
            for lot in lots(one):
                found.setdefault(plain.core(plain.left_without(one, lot)), []).append(lot)
            self.assertEqual(cores_below(one), sorted(found, key=lambda core: (len(core), core)))
            for other in sorted(found) + ["b", "ba", "abab", "dcba"]:
                self.assertEqual(ways_below(one, other), len(found.get(other, [])))
                least = min(found.get(other, []), key=lambda lot: (len(lot), lot), default=None)
                self.assertEqual(least_levels(one, other), least)

    def test_the_empty_core(self):
        self.assertEqual(cores_below(""), [""])
        self.assertEqual(ways_below("", ""), 1)
        self.assertEqual(least_levels("", ""), ())
        self.assertEqual(ways_below("", "a"), 0)
        self.assertIsNone(least_levels("", "a"))
        self.assertEqual(least_levels("aba", ""), (1, 2))

    def test_ten_levels_and_eleven(self):
        self.assertEqual(len(plain.gaps(TEN)), 10)
        self.assertEqual(cores_below(TEN), ["ab" * many for many in range(11)])
        self.assertEqual(ways_below(TEN, "ab" * 4), comb(10, 4))
        self.assertEqual(least_levels(TEN, "ab" * 4), (1, 2, 3, 4, 5, 6))
        self.assertEqual(ways_below(TEN, ELEVEN), 0)
        self.assertIsNone(least_levels(TEN, ELEVEN))
        too_many = (TooMany, {"most": 10})
        self.assertEqual(failure(cores_below, (ELEVEN,)), too_many)
        for call in (ways_below, least_levels):
            self.assertEqual(failure(call, (ELEVEN, "ab")), too_many)
            self.assertEqual(failure(call, (ELEVEN, "aa")), (BadCore, {}))
            self.assertEqual(failure(call, (ELEVEN, "ax")), (BadWord, {"place": 1}))
        self.assertEqual(failure(cores_below, ("ab" * 1000,)), too_many)

    def test_lists_are_new(self):
        cores_below("aba").clear()
        self.assertEqual(len(cores_below("aba")), 4)

    def test_errors(self):
        self.assertEqual(TooMany.__bases__, (SayError,))
        check_errors(self, cores_below, ["aba"], [CORES])
        for call in (ways_below, least_levels):
            check_errors(self, call, ["aba", "ab"], [CORES, CORES])


def loose_rows(one, most):
    """For each word to which numbers from 0 to the most one say a word: the rows that do."""
    found = {}
    for row in product(range(most + 1), repeat=plain.marks(one)[-1]):
        found.setdefault(plain.say_by_row(row, one), []).append(row)
    return found


class LooseRows(unittest.TestCase):
    def test_examples(self):
        self.assertEqual(any_rule("ab", ""), (0,))
        self.assertEqual(count_any("aa", "aa"), 3)

    def test_all_rows(self):
        others = plain.words_to(4) + ["abc", "ca", "abca", "cc", "abac"]
        ones = plain.words_to(5) + ["abc", "abca", "abaca", "aabaca", "abacaa", "abcab", "cabac", "abbcaa"]
        for one in ones:
            found = loose_rows(one, 4)
            for other in others:
                rows = found.get(other, [])
                self.assertEqual(count_any(one, other), len(rows), (one, other))
                row = any_rule(one, other)
                if rows:
                    self.assertIn(row, rows)
                else:
                    self.assertIsNone(row)

    def test_more_levels_than_letters(self):
        one = "abacadaba"
        found = loose_rows(one, 3)
        for other in ["", "a", "aa", "aaa", "ab", "aba", "aab", "aaba", "baa", "aabaa", "b"]:
            rows = [row for row in found.get(other, []) if max(row) <= 3]
            self.assertEqual(count_any(one, other), len(rows), other)
            self.assertEqual(any_rule(one, other) in rows, bool(rows))

    def test_the_empty_word(self):
        self.assertEqual(any_rule("", ""), ())
        self.assertEqual(count_any("", ""), 1)
        self.assertIsNone(any_rule("", "a"))
        self.assertEqual(count_any("", "a"), 0)
        self.assertEqual(any_rule("aabba", ""), (0, 0, 0))
        self.assertEqual(count_any("aabba", ""), 1)

    def test_great_words(self):
        self.assertEqual(count_any("a" * 1000, "a" * 2000), comb(2999, 999))
        self.assertEqual(count_any("a" * 2000, "a" * 2000), comb(3999, 1999))
        self.assertEqual(plain.say_by_row(any_rule("a" * 2000, "a" * 1999), "a" * 2000), "a" * 1999)
        one, other = from_gaps("abac", (500, 500)), from_gaps("aba", (100, 300))
        self.assertEqual(count_any(one, other), 0)
        self.assertEqual(count_any(one, from_gaps("abac", (100, 300))), comb(599, 100) * comb(799, 300))

    def test_ten_levels_and_eleven(self):
        self.assertEqual(count_any(TEN, "ab"), 10)
        self.assertEqual(count_any(TEN, "aabb"), 10)
        self.assertEqual(count_any(TEN, "ab" * 2), comb(10, 2))
        self.assertEqual(count_any("aab" * 5, "aab" * 5), len([
            row for row in product(range(3), repeat=10) if plain.say_by_row(row, "aab" * 5) == "aab" * 5
        ]))
        self.assertEqual(sum(any_rule(TEN, "ab" * 3)), 3)
        for other in ("ab", ELEVEN, ""):
            for call in (any_rule, count_any):
                self.assertEqual(failure(call, (ELEVEN, other)), (TooMany, {"most": 10}))
                self.assertEqual(failure(call, (ELEVEN, "ax")), (BadWord, {"place": 1}))
        self.assertIsNone(any_rule(TEN, ELEVEN))
        self.assertEqual(count_any("aabb" * 10, "ab"), 20)

    def test_errors(self):
        for call in (any_rule, count_any):
            check_errors(self, call, ["ab", "aabb"], [WORDS, WORDS])


class Undoing(unittest.TestCase):
    def test_examples(self):
        self.assertIs(is_said((2,), "aab"), False)
        self.assertEqual(undo((0, 1), "a"), "aa")
        self.assertEqual(count_undo((0, 1), "a", 2), 1)
        self.assertEqual(undoings((0, 1), "a", 2), ["aa"])

    def test_words_that_are_said(self):
        words = plain.words_to(8)
        for rule in [rule for rule in SMALL_RULES if len(rule) < 3]:
            reached = {plain.say(rule, word): True for word in words}
            for word in plain.words_to(4):
                self.assertIs(is_said(rule, word), word in reached, (rule, word))

    def test_undo(self):
        for rule in SMALL_RULES:
            for word in SMALL:
                told = undo(rule, word)
                self.assertIs(told is not None, is_said(rule, word))
                if told is not None:
                    self.assertEqual(plain.say(rule, told), word)
                    self.check_least(rule, told, word)

    def check_least(self, rule, told, word):
        """The runs are of the same letters, and no count behind one of them could be less."""
        ends = [[end for end in range(1, len(one) + 1) if one[end - 1] != one[end:end + 1]] for one in (told, word)]
        self.assertEqual([told[end - 1] for end in ends[0]], [word[end - 1] for end in ends[1]])
        for low, high in zip(*ends):
            count = told[:low].count(told[low - 1])
            self.assertEqual(plain.put(rule, count), word[:high].count(word[high - 1]))
            self.assertLess(plain.put(rule, count - 1), plain.put(rule, count))

    def test_limits_of_undo(self):
        self.assertEqual(undo((0,) * 29 + (1,), "abcd" * 500), "".join(letter * 30 for letter in "abcd") + "abcd" * 499)
        self.assertEqual(undo((1,), "ab" * 1000), "ab" * 1000)
        self.assertEqual(undo((10 ** 6,), ""), "")
        self.assertIsNone(undo((10 ** 6,), "a"))
        self.assertIs(is_said((0,), ""), True)
        self.assertIs(is_said((0,), "a"), False)
        self.assertIs(is_said((2000, 0), "a" * 2000), True)
        self.assertEqual(undo((3, 0, 0, 5), "a" * 1998), "a" * 402)
        self.assertIsNone(undo((3, 0, 0, 5), "a" * 1999))

    def test_undoings(self):
        rules = [(1,), (0,), (2,), (0, 1), (1, 0), (0, 2, 1), (1, 0, 1), (2, 1, 0), (0, 0, 1)]
        words = ["", "a", "b", "ab", "ba", "aa", "aabb", "aba", "abab", "aab", "cab", "aaaa", "abcd", "dd"]
        for size in range(6):
            told = ["".join(row) for row in product("abcd", repeat=size)]
            for rule in rules:
                found = {}
                for word in told:
                    found.setdefault(plain.say(rule, word), []).append(word)
                for word in words:
                    self.assertEqual(count_undo(rule, word, size), len(found.get(word, [])), (rule, word, size))
                    self.assertEqual(undoings(rule, word, size), found.get(word, []), (rule, word, size))

    def test_sizes_of_none_and_of_ten(self):
        self.assertEqual(undoings((5,), "", 0), [""])
        self.assertEqual(undoings((5,), "a", 0), [])
        self.assertEqual(count_undo((5,), "", 0), 1)
        self.assertEqual(count_undo((0,), "", 10), 4 ** 10)
        self.assertEqual(count_undo((1,), "abcdabcdab", 10), 1)
        self.assertEqual(undoings((2,), "aabb" * 5, 10), ["ab" * 5])
        self.assertEqual(count_undo((10 ** 6,), "a" * 2000, 10), 0)
        self.assertEqual(undoings((200,), "a" * 2000, 10), ["a" * 10])

    def test_three_thousand_words_and_more(self):
        rule = (0, 0, 1, 1, 1, 0, 1)
        found = undoings(rule, "aaba", 10)
        self.assertEqual(len(found), 3000)
        self.assertEqual(found, sorted(set(found)))
        self.assertEqual([word for word in found if len(word) != 10 or plain.say(rule, word) != "aaba"], [])
        self.assertEqual(count_undo((0, 0, 1, 1, 1, 0), "aaba", 10), 3015)
        too_long = (TooLong, {"most": 3000})
        self.assertEqual(failure(undoings, ((0, 0, 1, 1, 1, 0), "aaba", 10)), too_long)
        self.assertEqual(failure(undoings, ((0,), "", 6)), too_long)
        self.assertEqual(len(undoings((0,), "", 5)), 1024)
        self.assertEqual(failure(undoings, ((0,), "", 11)), (BadNumber, {}))

    def test_lists_are_new(self):
        undoings((0, 1), "a", 2).clear()
        self.assertEqual(undoings((0, 1), "a", 2), ["aa"])

    def test_errors(self):
        for call in (is_said, undo):
            check_errors(self, call, [(1, 2), "aab"], [RULES, WORDS])
            check_errors(self, call, [(5,), "aab"], [RULES, WORDS])
        for call in (count_undo, undoings):
            check_errors(self, call, [(1, 2), "aab", 2], [RULES, WORDS, numbers(0, 10)])


if __name__ == "__main__":
    unittest.main()
