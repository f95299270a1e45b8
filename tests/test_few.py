import unittest
from itertools import product

import plain
from saidcounts.errors import BadNumber, BadWord, TooLong
from saidcounts.few import all_rules, count_small, fewest_sayings, sayings_to, stops_on_the_way
from saidcounts.marks import from_gaps
from saidcounts.rules import count_rules, least_rule
from wrong import WORDS, check_errors, failure, numbers

SMALL = sorted(set(plain.words_to(6) + ["abc", "aabbcc", "abcabc"]))
FOUND = plain.rows_between(SMALL)
PAIRS = list(product(SMALL, repeat=2))


def small_rows(one, other, bound):
    """All rows of numbers up to the bound that say one to other."""
    return [row for row in FOUND.get((one, other), []) if max(row, default=1) <= bound]


def sayings_from(one, bound):
    """How many sayings with numbers up to the bound lead to each small word, by trying them all."""
    many = {one: 0}
    last = [one]
    while last:
        found = [other for other in SMALL for word in last if other not in many and small_rows(word, other, bound)]
        for other in found:
            many[other] = many[last[0]] + 1
        last = sorted(set(found))
    return many


class Few(unittest.TestCase):
    def test_examples(self):
        self.assertEqual(fewest_sayings("a", "aaaaa", 2), 3)
        self.assertEqual(sayings_to("a", "aaaaa", 2), ((2,), (2, 2), (2, 1, 1, 1)))
        self.assertEqual(stops_on_the_way("a", "aaa", 2), ["a", "aa", "aaa"])

    def test_fewest(self):
        for bound in (2, 3, 4):
            for one in SMALL:
                many = sayings_from(one, bound)
                for other in SMALL:
                    self.assertEqual(fewest_sayings(one, other, bound), many.get(other), (one, other, bound))

    def check_way(self, one, other, bound):
        rows = sayings_to(one, other, bound)
        stops = stops_on_the_way(one, other, bound)
        many = fewest_sayings(one, other, bound)
        if many is None:
            self.assertIsNone(rows)
            self.assertIsNone(stops)
            return
        self.assertIsInstance(rows, tuple)
        self.assertIsInstance(stops, list)
        self.assertEqual((len(rows), len(stops)), (many, many + 1))
        self.assertEqual((stops[0], stops[-1]), (one, other))
        for row, word, stop in zip(rows, stops, stops[1:]):
            self.assertEqual(len(row), plain.marks(word)[-1])
            self.assertEqual(plain.say_by_row(row, word), stop)
            grown = [min(goal, bound * gap) for gap, goal in zip(plain.gaps(word), plain.gaps(other))]
            self.assertEqual(plain.gaps(stop), tuple(grown))
            if (word, stop) in FOUND:
                self.assertEqual(row, max(small_rows(word, stop, bound)))

    def test_ways(self):
        for bound in (2, 3, 4, 1000):
            for one, other in PAIRS:
                self.check_way(one, other, bound)
        self.check_way(from_gaps("abab", (3, 2)), from_gaps("abab", (50, 7)), 3)
        self.assertEqual(sayings_to("aaa", "a" * 7, 3), ((3, 3, 1),))
        self.assertEqual(sayings_to("aabaa", "aaaabaaaaaaa", 2), ((1, 2, 2, 2), (1, 2, 1, 2, 2, 2, 1)))
        self.assertEqual(sayings_to("aabba", "aaabbbaaa", 3), ((2, 1, 3),))

    def test_the_same_word(self):
        for word in ("", "a", "aabba", "ab" * 1000):
            self.assertEqual(fewest_sayings(word, word, 2), 0)
            self.assertEqual(sayings_to(word, word, 2), ())
            self.assertEqual(stops_on_the_way(word, word, 2), [word])

    def test_unlike_cores_and_shrinking_gaps(self):
        for one, other in [("ab", "ba"), ("", "a"), ("a", ""), ("aa", "a"), ("aabba", "abaa")]:
            self.assertIsNone(fewest_sayings(one, other, 1000))
            self.assertIsNone(sayings_to(one, other, 1000))
            self.assertIsNone(stops_on_the_way(one, other, 1000))
            self.assertEqual(count_small(one, other, 1000), 0)

    def test_limits(self):
        self.assertEqual(fewest_sayings("a", "a" * 1000, 1000), 1)
        self.assertEqual(sayings_to("a", "a" * 1000, 1000), ((1000,),))
        self.assertEqual(fewest_sayings("a", "a" * 1001, 1000), 2)
        self.assertEqual(sayings_to("a", "a" * 1001, 1000), ((1000,), (2,) + (1,) * 999))
        self.assertEqual(fewest_sayings("a", "a" * 2000, 2), 11)
        self.assertEqual(fewest_sayings("a", "a" * 1024, 2), 10)
        self.assertEqual(fewest_sayings("a", "a" * 1025, 2), 11)
        self.check_way("a", "a" * 2000, 2)
        self.check_way("ab" * 10, from_gaps("ab" * 10, tuple(range(1, 11))), 2)

    def test_lists_are_new(self):
        stops_on_the_way("a", "aa", 2).clear()
        self.assertEqual(stops_on_the_way("a", "aa", 2), ["a", "aa"])

    def test_errors(self):
        for call in (fewest_sayings, sayings_to, stops_on_the_way, count_small):
            for other in ("aabb", "ba"):
                check_errors(self, call, ["ab", other, 2], [WORDS, WORDS, numbers(2, 1000)])
            self.assertEqual(failure(call, ("ab", "ba", 1)), (BadNumber, {}))
            self.assertEqual(failure(call, ("ab", "ba", 1001)), (BadNumber, {}))


class SmallRows(unittest.TestCase):
    def test_examples(self):
        self.assertEqual(count_small("aa", "aaaa", 2), 1)
        self.assertEqual(all_rules("aa", "aaa"), [(1, 2), (2, 1)])

    def test_count_small(self):
        for one, other in PAIRS:
            for bound in (2, 3, 4, 5, 1000):
                self.assertEqual(count_small(one, other, bound), len(small_rows(one, other, bound)))

    def test_more_numbers(self):
        one, other = from_gaps("abab", (4, 2)), from_gaps("abab", (9, 5))
        for bound in (2, 3, 4, 5, 6):
            rows = [row for row in product(range(1, bound + 1), repeat=6) if plain.say_by_row(row, one) == other]
            self.assertEqual(count_small(one, other, bound), len(rows))

    def test_great_numbers(self):
        one, other = "a" * 1000, "a" * 2000
        self.assertEqual(count_small(one, other, 2), 1)
        self.assertEqual(count_small(one, "a" * 1999, 2), 1000)
        self.assertEqual(count_small(one, other, 1000), count_rules(one, other) - 1000)
        self.assertEqual(count_small("a", "a" * 1001, 1000), 0)
        self.assertEqual(count_small("a", "a" * 1000, 1000), 1)
        self.assertEqual(count_small("", "", 2), 1)

    def test_all_rules(self):
        for one, other in PAIRS:
            self.assertEqual(all_rules(one, other), FOUND.get((one, other), []))
        self.assertEqual(all_rules("", ""), [()])
        self.assertEqual(all_rules("ab", "ba"), [])

    def test_more_rules(self):
        one, other = from_gaps("abab", (3, 2)), from_gaps("abab", (6, 5))
        rows = [row for row in product(range(1, 5), repeat=5) if plain.say_by_row(row, one) == other]
        self.assertEqual(all_rules(one, other), rows)

    def test_three_thousand_rows_and_more(self):
        # No word of at most 2000 letters has just 3001 rows, because that number is a prime.
        found = all_rules("aabbaa", from_gaps("aba", (51, 61)))
        self.assertEqual(len(found), 3000)
        self.assertEqual(found, sorted(set(found)))
        more = from_gaps("abcabcab", (3, 20, 80))
        self.assertEqual(count_rules(from_gaps("abcabcab", (2, 2, 2)), more), 3002)
        self.assertEqual(failure(all_rules, (from_gaps("abcabcab", (2, 2, 2)), more)), (TooLong, {"most": 3000}))
        self.assertEqual(failure(all_rules, ("a" * 1000, "a" * 2000)), (TooLong, {"most": 3000}))
        self.assertEqual(len(all_rules("a" * 1999, "a" * 2000)), 1999)
        self.assertEqual(all_rules("ab" * 1000, "ab" * 1000), [(1,) * 1000])

    def test_lists_are_new(self):
        all_rules("aa", "aaa").clear()
        self.assertEqual(all_rules("aa", "aaa")[0], least_rule("aa", "aaa"))

    def test_errors(self):
        check_errors(self, all_rules, ["ab", "aabb"], [WORDS, WORDS])
        self.assertEqual(failure(all_rules, ("a" * 1000, "x")), (BadWord, {"place": 0}))


if __name__ == "__main__":
    unittest.main()
