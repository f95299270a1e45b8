import unittest
from itertools import groupby, product

import plain
from saidcounts.each import (
    bare_word, can_each, count_each, join_each, marks_each, meet_each, rows_each, said_each,
)
from saidcounts.errors import BadRule, BadRules, BadWord, SayError, TooLong
from wrong import FOUR_RULES, WORDS, check_errors, failure

ONES = plain.words_to(4) + ["abc", "abbc", "abca", "cab", "dd", "abcd"]
OTHERS = plain.words_to(6) + plain.words_to(4, "abcd") + ["aabbccaa", "ccabb", "aabbccdd", "aaaaaaa", "aaaaaaaa"]
OTHERS = sorted(set(OTHERS))


def say_each(rows, word):
    """The word each letter of which is said by its own row, letter by letter."""
    told = ""
    for place, letter in enumerate(word):
        row = rows["abcd".index(letter)]
        number = word[:place + 1].count(letter)
        told += letter * row[min(number, len(row)) - 1]
    return told


def rows_between(ones, others):
    """For each pair of words all tuples of four rows that say one to other, by trying all rows."""
    found = {}
    known = set(others)
    for one in ones:
        most = max(map(len, others)) - len(one) + 1
        ranges = [range(1, most + 1)] * len(one)
        counts = [one.count(letter) for letter in "abcd"]
        for numbers in product(*ranges):
            rows = []
            for many in counts:
                rows.append(numbers[:many])
                numbers = numbers[many:]
            other = say_each(rows, one)
            if other in known:
                found.setdefault((one, other), []).append(tuple(rows))
    return found


FOUND = rows_between(ONES, OTHERS)


class Each(unittest.TestCase):
    def test_examples(self):
        self.assertEqual(said_each(((2,), (1,), (0, 1), (1,)), "abcac"), "aabaac")
        self.assertIs(can_each("ab", "aabbb"), True)
        self.assertEqual(count_each("aab", "aaabb"), 2)
        self.assertEqual(rows_each("aab", "aaabb"), ((1, 2), (2,), (), ()))

    def test_said_each(self):
        rules = [(1,), (0,), (2, 0), (0, 3), (1, 2, 3)]
        for rows in product(rules, repeat=4):
            for word in ("", "a", "abcd", "abcabcd", "aaabbbcccddd", "dcbaab"):
                self.assertEqual(said_each(rows, word), say_each(rows, word))

    def test_twenty_thousand_letters(self):
        rules = ((1,), (10 ** 4 - 1,), (10 ** 4,), (1,))
        self.assertEqual(said_each(rules, "abc"), "a" + "b" * 9999 + "c" * 10 ** 4)
        self.assertEqual(failure(said_each, (rules, "abca")), (TooLong, {"most": 20000}))
        self.assertEqual(said_each(((10 ** 6,), (1,), (1,), (1,)), "bcd"), "bcd")
        self.assertEqual(failure(said_each, (((10 ** 6,),) * 4, "ab" * 1000)), (TooLong, {"most": 20000}))
        self.assertEqual(failure(said_each, (((10 ** 6,),) * 4, "ax")), (BadWord, {"place": 1}))

    def test_all_rows(self):
        for one, other in product(ONES, OTHERS):
            rows = FOUND.get((one, other), [])
            self.assertIs(can_each(one, other), bool(rows), (one, other))
            self.assertEqual(count_each(one, other), len(rows), (one, other))
            expected = None
            if rows:
                expected = tuple(min(column) for column in zip(*rows))
                self.assertIn(expected, rows)
            self.assertEqual(rows_each(one, other), expected, (one, other))

    def test_the_empty_word(self):
        self.assertIs(can_each("", ""), True)
        self.assertEqual(count_each("", ""), 1)
        self.assertEqual(rows_each("", ""), ((), (), (), ()))
        self.assertIs(can_each("", "a"), False)
        self.assertEqual(count_each("a", ""), 0)
        self.assertIsNone(rows_each("a", ""))
        self.assertEqual(said_each(((1,),) * 4, ""), "")

    def test_great_words(self):
        self.assertEqual(count_each("aabb" * 250, "aaaabbbb" * 250), 3 ** 500)
        self.assertEqual(rows_each("a" * 1000, "a" * 2000), ((1,) * 999 + (1001,), (), (), ()))
        self.assertIs(can_each("ab" * 500, "aab" * 500), True)

    def test_errors(self):
        for error in (BadRules, BadRule):
            self.assertEqual(error.__bases__, (SayError,))
        check_errors(self, said_each, [((1,),) * 4, "ab"], [FOUR_RULES, WORDS])
        for call in (can_each, count_each, rows_each, join_each, meet_each):
            check_errors(self, call, ["ab", "aabb"], [WORDS, WORDS])
            check_errors(self, call, ["ab", "ba"], [WORDS, WORDS])


class JoinsOfRuns(unittest.TestCase):
    def test_examples(self):
        self.assertEqual(join_each("aab", "abb"), "aabb")
        self.assertEqual(meet_each("aab", "abb"), "ab")
        self.assertEqual(bare_word("aabba"), "aba")
        self.assertEqual(marks_each("aabba"), ((0, 2, 3), (0, 2), (0,), (0,)))

    def test_shortest_and_longest(self):
        small = plain.words_to(3) + ["abc", "aab", "abb", "abbc"]
        for one, other in product(small, repeat=2):
            above = [word for word in OTHERS if (one, word) in FOUND and (other, word) in FOUND]
            below = [word for word in ONES if (word, one) in FOUND and (word, other) in FOUND]
            self.assertEqual(join_each(one, other), min(above, key=len, default=None))
            self.assertEqual(meet_each(one, other), max(below, key=len, default=None))

    def test_more_words(self):
        self.assertEqual(join_each("abcda", "abbcda"), "abbcda")
        self.assertEqual(join_each("", ""), "")
        self.assertEqual(meet_each("", ""), "")
        self.assertIsNone(join_each("", "a"))
        self.assertIsNone(meet_each("ab", "ba"))
        self.assertEqual(join_each("a" * 1999 + "b", "a" + "b" * 1999), "a" * 1999 + "b" * 1999)
        self.assertEqual(meet_each("a" * 1999 + "b", "a" + "b" * 1999), "ab")

    def test_bare_words(self):
        for word in plain.words_to(6) + plain.words_to(4, "abcd"):
            self.assertEqual(bare_word(word), "".join(letter for letter, _ in groupby(word)))

    def test_marks_each(self):
        for word in plain.words_to(6) + plain.words_to(4, "abcd"):
            expected = []
            for letter in "abcd":
                ends = [end for end in range(1, len(word) + 1) if word[end - 1] == letter != word[end:end + 1]]
                expected.append(tuple([0] + [word[:end].count(letter) for end in ends]))
            self.assertEqual(marks_each(word), tuple(expected))
        self.assertEqual(marks_each(""), ((0,),) * 4)

    def test_errors(self):
        for call in (bare_word, marks_each):
            check_errors(self, call, ["ab"], [WORDS])


if __name__ == "__main__":
    unittest.main()
