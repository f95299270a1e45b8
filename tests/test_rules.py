import unittest
from itertools import product
from math import comb

import plain
from saidcounts.errors import BadPairs, BadWord, SayError
from saidcounts.marks import from_gaps
from saidcounts.rules import (
    bar, common_rule, count_common, count_rules, greatest_rule, least_rule, rank_of_rule, rule_at, says,
)
from wrong import ROWS, RULES, WORDS, check_errors, failure, numbers, pairs

SMALL = sorted(set(plain.words_to(6) + ["abc", "aabbcc", "abcabc"]))
FOUND = plain.rows_between(SMALL)


class Rows(unittest.TestCase):
    def test_examples(self):
        self.assertEqual(count_rules("aa", "aaaa"), 3)
        self.assertEqual(least_rule("aa", "aaaa"), (1, 3))
        self.assertEqual(greatest_rule("aa", "aaaa"), (3, 1))
        self.assertEqual(rule_at("aa", "aaaa", 1), (2, 2))
        self.assertEqual(rank_of_rule("aa", "aaaa", (3, 1)), 2)

    def test_all_rows(self):
        for one, other in product(SMALL, repeat=2):
            rows = FOUND.get((one, other), [])
            self.assertEqual(count_rules(one, other), len(rows))
            self.assertEqual(least_rule(one, other), rows[0] if rows else None)
            self.assertEqual(greatest_rule(one, other), rows[-1] if rows else None)
            self.assertEqual([rule_at(one, other, rank) for rank in range(len(rows) + 1)], rows + [None])
            self.assertEqual([rank_of_rule(one, other, row) for row in rows], list(range(len(rows))))

    def test_more_numbers(self):
        one = from_gaps("abab", (3, 2))
        other = from_gaps("abab", (5, 4))
        rows = [row for row in product(range(1, 4), repeat=5) if plain.say_by_row(row, one) == other]
        self.assertEqual(count_rules(one, other), len(rows))
        self.assertEqual([rule_at(one, other, rank) for rank in range(len(rows))], rows)
        for row in product(range(1, 5), repeat=5):
            expected = rows.index(row) if row in rows else None
            self.assertEqual(rank_of_rule(one, other, row), expected)

    def test_the_empty_word(self):
        self.assertEqual(count_rules("", ""), 1)
        self.assertEqual(least_rule("", ""), ())
        self.assertEqual(greatest_rule("", ""), ())
        self.assertEqual(rule_at("", "", 0), ())
        self.assertIsNone(rule_at("", "", 1))
        self.assertEqual(rank_of_rule("", "", ()), 0)
        self.assertIsNone(rank_of_rule("", "", (1,)))
        self.assertEqual(count_rules("", "a"), 0)
        self.assertIsNone(least_rule("", "a"))
        self.assertIsNone(greatest_rule("a", ""))

    def test_no_row(self):
        for one, other in [("ab", "ba"), ("aa", "a"), ("aabba", "abaa")]:
            self.assertIsNone(rule_at(one, other, 0))
            self.assertIsNone(rank_of_rule(one, other, (1, 1)))
            self.assertIsNone(rank_of_rule(one, other, ()))

    def test_tuples_that_are_no_row(self):
        for told in [(), (1,), (4,), (1, 1), (1, 2), (1, 3, 1), (2, 3), (10 ** 70, 1), (1, 1, 1, 1)]:
            self.assertIsNone(rank_of_rule("aa", "aaaa", told))
        self.assertIsNone(rank_of_rule("aabba", "aaabbbaa", (2, 2, 1)))
        self.assertEqual(rank_of_rule("aabba", "aaabbbaa", (2, 1, 2)), 1)

    def test_many_rows(self):
        one, other = "a" * 1000, "a" * 2000
        many = count_rules(one, other)
        self.assertEqual(many, comb(1999, 999))
        self.assertEqual(rule_at(one, other, many - 2), (1000, 2) + (1,) * 998)
        self.assertEqual(rule_at(one, other, 0), least_rule(one, other))
        self.assertEqual(rule_at(one, other, many - 1), greatest_rule(one, other))
        self.assertIsNone(rule_at(one, other, many))
        self.assertEqual(greatest_rule(one, other), (1001,) + (1,) * 999)
        for rank in [1, many // 3, many // 2, many - 2]:
            self.assertEqual(rank_of_rule(one, other, rule_at(one, other, rank)), rank)
        self.assertEqual(count_rules("aabb" * 250, "aaaabbbb" * 250), 3 ** 250)

    def test_errors(self):
        for call in (count_rules, least_rule, greatest_rule, bar):
            check_errors(self, call, ["ab", "aabb"], [WORDS, WORDS])
        for other in ("aabb", "ba"):
            check_errors(self, rule_at, ["ab", other, 0], [WORDS, WORDS, numbers(0)])
            check_errors(self, rank_of_rule, ["ab", other, (2,)], [WORDS, WORDS, ROWS])


class Bars(unittest.TestCase):
    def test_examples(self):
        self.assertEqual(bar("ab", "ba"), "core")
        self.assertEqual(bar("aabba", "aba"), 1)
        self.assertIsNone(bar("", ""))
        self.assertEqual(bar("", "a"), "core")
        self.assertEqual(bar("a", ""), "core")

    def test_first_gap_that_is_greater(self):
        rows = list(product((1, 2), repeat=3))
        for one, other in product(rows, repeat=2):
            greater = [number for number in (1, 2, 3) if one[number - 1] > other[number - 1]]
            found = bar(from_gaps("abcabcab", one), from_gaps("abcabcab", other))
            self.assertEqual(found, greater[0] if greater else None)

    def test_none_if_there_is_a_row(self):
        for one, other in product(SMALL, repeat=2):
            found = bar(one, other)
            self.assertIs(found is None, (one, other) in FOUND)
            self.assertIs(found == "core", plain.core(one) != plain.core(other))


class Says(unittest.TestCase):
    def test_rules_with_zeros(self):
        self.assertIs(says((0, 1), "aab", "a"), True)
        self.assertIs(says((0,), "abc", ""), True)
        self.assertIs(says((0,), "", ""), True)
        self.assertIs(says((1,), "", "a"), False)
        self.assertIs(says((0, 1), "aab", "b"), False)

    def test_the_said_word_alone(self):
        words = plain.words_to(4)
        for rule in [(1,), (2,), (0, 1), (1, 0), (2, 0, 1), (0,)]:
            for one, other in product(words, repeat=2):
                self.assertIs(says(rule, one, other), plain.say(rule, one) == other)

    def test_limits(self):
        self.assertIs(says((10 ** 6,), "ab" * 1000, "ab"), False)
        self.assertIs(says((2,), "a" * 1000, "a" * 2000), True)
        self.assertIs(says((1,) * 30, "ab" * 1000, "ab" * 1000), True)

    def test_errors(self):
        check_errors(self, says, [(1,), "ab", "aabb"], [RULES, WORDS, WORDS])


class Common(unittest.TestCase):
    def search(self, told):
        many = max(max(plain.marks(one)) for one, other in told)
        most = max(max(plain.marks(other)) for one, other in told)
        rows = product(range(1, most + 1), repeat=many)
        return [row for row in rows if all(plain.say_by_row(row, one) == other for one, other in told)]

    def check(self, told):
        rows = self.search(told)
        self.assertEqual(count_common(told), len(rows), told)
        self.assertEqual(common_rule(told), rows[0] if rows else None, told)

    def test_examples(self):
        self.assertEqual(common_rule((("ab", "aabb"), ("aa", "aaaaa"))), (2, 3))
        self.assertEqual(count_common((("aa", "aaaa"),)), 3)

    def test_small_pairs(self):
        words = ["", "a", "aa", "aaa", "ab", "aab", "aabb", "aba", "aabba", "aaaab", "aabbaa", "ba"]
        told = list(product(words, repeat=2))
        for pair in told:
            self.check((pair,))
        for first, second in product(told[::3] + [("aa", "aaaa"), ("aaa", "aaaaa")], told):
            self.check((first, second))

    def test_more_pairs(self):
        self.check((("a", "aa"), ("aa", "aaa"), ("aaa", "aaaaaa"), ("", ""), ("abbb", "aabbbbbb"), ("aaa", "aaaaaa")))
        self.check((("a", "aa"), ("aa", "aaa"), ("aaa", "aaaaa"), ("", ""), ("abbb", "aabbbbbb"), ("", "")))
        self.check((("aaaa", "aaaaaa"), ("a", "aa"), ("aaa", "aaaa")))
        self.check((("aa", "aaa"), ("aaaa", "aaaaaa")))
        self.check((("aaa", "aaaa"), ("a", "aaa")))
        self.check((("aaa", "aaaa"), ("a", "aaaaa")))
        self.check((("a", "aa"), ("a", "aaa")))

    def test_limits(self):
        self.assertEqual(count_common((("", ""),) * 6), 1)
        self.assertEqual(common_rule((("", ""),)), ())
        self.assertEqual(count_common((("a", "aa"), ("b", "c"))), 0)
        self.assertEqual(count_common((("", ""), ("", "a"))), 0)
        self.assertIsNone(common_rule((("a", "a"), ("", "a"))))
        self.assertEqual(count_common((("a" * 1000, "a" * 2000), ("b" * 500, "b" * 1000))), comb(999, 499) ** 2)
        self.assertEqual(common_rule((("ab" * 1000, "ab" * 1000), ("d" * 2000, "d" * 2000))), (1,) * 2000)

    def test_errors(self):
        self.assertEqual(BadPairs.__bases__, (SayError,))
        for call in (count_common, common_rule):
            check_errors(self, call, [(("ab", "aabb"),)], [pairs(6)])
            self.assertEqual(failure(call, ((("a", "a"), ("a", "xx"), 5),)), (BadWord, {"place": 0}))
            self.assertEqual(failure(call, ((("a", "a"), 5, ("a", "xx")),)), (BadPairs, {"index": 1}))
            self.assertEqual(failure(call, ((("ax", "y"),),)), (BadWord, {"place": 1}))
            self.assertEqual(failure(call, ((("a", "a"),) * 7,)), (BadPairs, {"index": None}))


if __name__ == "__main__":
    unittest.main()
