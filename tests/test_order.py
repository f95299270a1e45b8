import unittest

import plain
from saidcounts.errors import BadNumber, TooLong
from saidcounts.marks import from_gaps, gaps
from saidcounts.order import (
    between, chains, count_unsayings, is_saying, join, join_all, just_above, just_below, meet, meet_all,
    rank_of_unsaying, same_core, signs, steps, unsaying_at, unsayings,
)
from wrong import WORDS, check_errors, failure, numbers, word_tuples

SMALL = plain.words_to(6) + ["abc", "aabbcc", "abcabc", "acbb", "abac"]
SMALL = sorted(set(SMALL))
BELOW = {pair: True for pair in plain.rows_between(SMALL)}
PAIRS = [(one, other) for one in SMALL for other in SMALL]


def lower(word):
    """All unsayings of a small word, by their gaps."""
    return sorted([one for one in SMALL if (one, word) in BELOW], key=plain.gaps)


def upper(word):
    """All small sayings of a word."""
    return [other for other in SMALL if (word, other) in BELOW]


def covers(one):
    """The small words to which one least saying leads."""
    return [other for other in upper(one) if sum(plain.gaps(other)) == sum(plain.gaps(one)) + 1]


class Sayings(unittest.TestCase):
    def test_examples(self):
        self.assertIs(is_saying("aba", "aabba"), True)
        self.assertIs(is_saying("ab", "ba"), False)
        self.assertIs(same_core("ab", "aabb"), True)
        self.assertEqual(unsayings("aabba"), ["aba", "aabba"])

    def test_same_core(self):
        for one, other in PAIRS:
            self.assertIs(same_core(one, other), plain.core(one) == plain.core(other))

    def test_is_saying(self):
        for one, other in PAIRS:
            self.assertIs(is_saying(one, other), (one, other) in BELOW)

    def test_long_words(self):
        self.assertIs(is_saying("ab" * 1000, "ab" * 1000), True)
        self.assertIs(is_saying("a", "a" * 2000), True)
        self.assertIs(is_saying("a" * 2000, "a" * 1999), False)

    def test_errors(self):
        for call in (same_core, is_saying):
            check_errors(self, call, ["ab", "aabb"], [WORDS, WORDS])


class Unsayings(unittest.TestCase):
    def test_all_of_a_word(self):
        for word in SMALL:
            expected = lower(word)
            self.assertEqual(unsayings(word), expected)
            self.assertEqual(count_unsayings(word), len(expected))
            for rank, told in enumerate(expected):
                self.assertEqual(unsaying_at(word, rank), told)
            self.assertIsNone(unsaying_at(word, len(expected)))
            self.assertIsNone(unsaying_at(word, 10 ** 70))

    def test_ranks(self):
        for word, told in PAIRS:
            expected = lower(word).index(told) if (told, word) in BELOW else None
            self.assertEqual(rank_of_unsaying(word, told), expected)

    def test_the_empty_word(self):
        self.assertEqual(unsayings(""), [""])
        self.assertEqual(count_unsayings(""), 1)
        self.assertEqual(unsaying_at("", 0), "")
        self.assertIsNone(unsaying_at("", 1))
        self.assertEqual(rank_of_unsaying("", ""), 0)

    def test_five_thousand_and_one_more(self):
        word = from_gaps("aba", (50, 100))
        found = unsayings(word)
        self.assertEqual([gaps(told) for told in found], [(k, m) for k in range(1, 51) for m in range(1, 101)])
        self.assertEqual(failure(unsayings, (from_gaps("aba", (3, 1667)),)), (TooLong, {"most": 5000}))

    def test_many_levels(self):
        word = "aabb" * 500
        self.assertEqual(count_unsayings(word), 2 ** 500)
        self.assertEqual(unsaying_at(word, 2 ** 500 - 1), word)
        self.assertIsNone(unsaying_at(word, 2 ** 500))
        told = unsaying_at(word, 10 ** 100)
        self.assertEqual(rank_of_unsaying(word, told), 10 ** 100)
        self.assertEqual(failure(unsayings, (word,)), (TooLong, {"most": 5000}))
        self.assertEqual(unsayings("ab" * 1000), ["ab" * 1000])

    def test_lists_are_new(self):
        unsayings("aabba").clear()
        self.assertEqual(unsayings("aabba"), ["aba", "aabba"])

    def test_errors(self):
        for call in (unsayings, count_unsayings):
            check_errors(self, call, ["ab"], [WORDS])
        check_errors(self, unsaying_at, ["aab", 0], [WORDS, numbers(0)])
        check_errors(self, rank_of_unsaying, ["aab", "ab"], [WORDS, WORDS])


class JoinsAndMeets(unittest.TestCase):
    def test_examples(self):
        self.assertEqual(join("aabba", "abaa"), "aabbaa")
        self.assertEqual(meet("aabba", "abaa"), "aba")
        self.assertEqual(join_all(("a", "aaa", "aa")), "aaa")
        self.assertEqual(meet_all(("aa", "aaa")), "aa")

    def test_join(self):
        for one, other in PAIRS:
            common = [word for word in upper(one) if (other, word) in BELOW]
            if common:
                self.assertEqual(join(one, other), min(common, key=len))
            elif plain.core(one) != plain.core(other):
                self.assertIsNone(join(one, other))
            else:
                self.assertGreater(len(join(one, other)), 6)

    def test_meet(self):
        for one, other in PAIRS:
            common = [word for word in lower(one) if (word, other) in BELOW]
            self.assertEqual(meet(one, other), max(common, key=len, default=None))

    def test_of_more_words(self):
        alike = [from_gaps("abab", told) for told in [(3, 1), (1, 4), (2, 2), (1, 1), (5, 1), (1, 6), (2, 3), (3, 2)]]
        self.assertEqual(gaps(join_all(tuple(alike))), (5, 6))
        self.assertEqual(gaps(meet_all(tuple(alike))), (1, 1))
        self.assertEqual(gaps(join_all(tuple(alike[:3]))), (3, 4))
        self.assertEqual(gaps(meet_all(tuple(alike[6:]))), (2, 2))
        for call in (join_all, meet_all):
            self.assertEqual(call(("aabba",)), "aabba")
            self.assertEqual(call(("",) * 8), "")
            self.assertIsNone(call(("ab", "ab", "ab", "ab", "ab", "ab", "ab", "ba")))
            self.assertIsNone(call(("", "a")))
            self.assertIsNone(call(("a", "")))
            self.assertIsNone(call(("ab", "ba", "ab")))

    def test_a_join_may_be_longer_than_a_word(self):
        one = from_gaps("aba", (1, 1990))
        other = from_gaps("aba", (990, 1))
        self.assertEqual(join(one, other), "a" * 990 + "b" * 990 + "a" * 1990)

    def test_errors(self):
        for call in (join, meet):
            check_errors(self, call, ["ab", "aabb"], [WORDS, WORDS])
        for call in (join_all, meet_all):
            check_errors(self, call, [("ab", "aabb")], [word_tuples(8)])
            self.assertEqual(failure(call, ((),)), (BadNumber, {}))


class LeastSayings(unittest.TestCase):
    def test_examples(self):
        self.assertEqual(between("a", "aaa"), 3)
        self.assertEqual(steps("a", "aaa"), 2)
        self.assertEqual(chains("aba", "aabbaa"), 2)
        self.assertEqual(signs("a", "aa"), -1)

    def test_between(self):
        for one, other in PAIRS:
            self.assertEqual(between(one, other), len([word for word in upper(one) if (word, other) in BELOW]))

    def test_steps_and_chains(self):
        for one in SMALL:
            ways = {one: 1}
            far = {one: 0}
            for word in sorted(upper(one), key=lambda word: sum(plain.gaps(word))):
                for other in covers(word):
                    ways[other] = ways.get(other, 0) + ways[word]
                    far[other] = far[word] + 1
            for other in SMALL:
                self.assertEqual(steps(one, other), far.get(other))
                self.assertEqual(chains(one, other), ways.get(other, 0))

    def test_signs(self):
        for one in SMALL:
            found = {}
            for other in sorted(upper(one), key=len):
                inner = [found[word] for word in found if word != other and (word, other) in BELOW]
                found[other] = -sum(inner) if inner else 1
            for other in SMALL:
                self.assertEqual(signs(one, other), found.get(other, 0))

    def test_signs_of_more_levels(self):
        self.assertEqual(signs("abab", "aabbaabb"), 1)
        self.assertEqual(signs("ababab", "aabbaabbaabb"), -1)
        self.assertEqual(signs("ab" * 500, "aabb" * 500), 1)
        self.assertEqual(signs("ababab", "aaabbbaabbaabb"), 0)

    def test_many_steps(self):
        self.assertEqual(steps("ab" * 500, "aabb" * 500), 500)
        self.assertEqual(between("ab" * 500, "aabb" * 500), 2 ** 500)
        expected = 1
        for number in range(1, 501):
            expected *= number
        self.assertEqual(chains("ab" * 500, "aabb" * 500), expected)
        self.assertEqual(chains("a", "a" * 2000), 1)

    def test_one_step(self):
        self.assertEqual(just_above("aba"), ("aabba", "abaa"))
        self.assertEqual(just_below("aabba"), ("aba",))
        self.assertEqual(just_above(""), ())
        self.assertEqual(just_below(""), ())
        self.assertEqual(just_below("ab" * 1000), ())
        self.assertEqual(just_above("a" * 2000), ("a" * 2001,))
        for word in SMALL:
            told = plain.gaps(word)
            above = [told[:k] + (told[k] + 1,) + told[k + 1:] for k in range(len(told))]
            below = [told[:k] + (told[k] - 1,) + told[k + 1:] for k in range(len(told)) if told[k] > 1]
            self.assertEqual([plain.gaps(other) for other in just_above(word)], above)
            self.assertEqual([plain.gaps(other) for other in just_below(word)], below)
            for other in just_above(word) + just_below(word):
                self.assertEqual(plain.core(other), plain.core(word))
            self.assertEqual([other for other in SMALL if word in covers(other)], sorted(just_below(word)))

    def test_errors(self):
        for call in (between, steps, chains, signs):
            check_errors(self, call, ["ab", "aabb"], [WORDS, WORDS])
        for call in (just_above, just_below):
            check_errors(self, call, ["ab"], [WORDS])


if __name__ == "__main__":
    unittest.main()
