import unittest
from itertools import product

import plain
from saidcounts.errors import BadNumber, BadRule
from saidcounts.reach import by_core, fewest_letters, least_times, lengths_said
from wrong import RULES, RULES_WITHOUT_ZEROS, WORDS, check_errors, failure, numbers, word_tuples

SMALL_RULES = [rule for many in (1, 2, 3) for rule in product((0, 1, 2, 3), repeat=many)]
SLOW = (1,) * 29 + (2,)


def fewest_of_all(rule, many, most):
    """For each length up to the most one the fewest letters of a word with that said length, by all counts."""
    found = {}
    places = [plain.put(rule, count) for count in range(most + 4)]
    for told in product(range(most + 4), repeat=many):
        length = sum(places[count] for count in told)
        if length <= most:
            found[length] = min(found.get(length, sum(told)), sum(told))
    return found


class Lengths(unittest.TestCase):
    def test_examples(self):
        self.assertEqual(fewest_letters((5, 0), 10, 2), 2)
        self.assertIsNone(fewest_letters((2,), 7, 4))
        self.assertEqual(lengths_said((2,), 1, 7), (0, 2, 4, 6))

    def test_all_counts(self):
        for rule in SMALL_RULES:
            for many, most in ((1, 12), (2, 9), (3, 5)):
                found = fewest_of_all(rule, many, most)
                self.assertEqual(lengths_said(rule, many, most), tuple(sorted(found)), (rule, many))
                for size in range(most + 1):
                    self.assertEqual(fewest_letters(rule, size, many), found.get(size), (rule, size, many))

    def test_four_kinds(self):
        for rule in [(3,), (5, 0), (0, 4, 1), (2, 3), (6, 0, 0, 1)]:
            found = fewest_of_all(rule, 4, 4)
            self.assertEqual(lengths_said(rule, 4, 4), tuple(sorted(found)))
            self.assertEqual([fewest_letters(rule, size, 4) for size in range(5)], [found.get(size) for size in range(5)])
        self.assertEqual(lengths_said((5, 0), 4, 400), (0, 5, 10, 15, 20))
        self.assertEqual(lengths_said((5, 0), 3, 400), (0, 5, 10, 15))
        self.assertEqual([fewest_letters((5, 0), 20, many) for many in (1, 2, 3, 4)], [None, None, None, 4])
        self.assertEqual([fewest_letters((5, 1), 20, many) for many in (1, 2, 3, 4)], [16, 12, 8, 4])

    def test_sizes_of_none_and_of_four_hundred(self):
        late = (0,) * 29 + (1,)
        for rule in ((0,), (1,), (10 ** 6,), late):
            self.assertEqual(fewest_letters(rule, 0, 1), 0)
            self.assertEqual(lengths_said(rule, 4, 0), (0,))
        self.assertEqual(lengths_said((0,), 4, 400), (0,))
        self.assertEqual(lengths_said((10 ** 6,), 4, 400), (0,))
        self.assertEqual(lengths_said((1,), 1, 400), tuple(range(401)))
        self.assertEqual(lengths_said(late, 4, 400), tuple(range(401)))
        self.assertEqual(fewest_letters(late, 400, 4), 429)
        self.assertEqual(fewest_letters((1,), 400, 4), 400)
        self.assertEqual(fewest_letters((100, 0), 400, 4), 4)
        self.assertEqual(fewest_letters((399, 0, 0, 1), 400, 1), 4)
        self.assertEqual(fewest_letters((399, 0, 0, 1), 400, 2), 4)
        self.assertIsNone(fewest_letters((10 ** 6, 0) * 15, 400, 4))
        self.assertEqual(lengths_said((0, 10 ** 6) * 15, 4, 400), (0,))
        self.assertEqual(fewest_letters((20,) + (0, 10) * 14 + (7,), 167, 1), 30)

    def test_errors(self):
        check_errors(self, fewest_letters, [(5, 0), 10, 2], [RULES, numbers(0, 400), numbers(1, 4)])
        check_errors(self, lengths_said, [(5, 0), 2, 10], [RULES, numbers(1, 4), numbers(0, 400)])


class Times(unittest.TestCase):
    def test_examples(self):
        self.assertEqual(least_times((2,), "a", 1024), 10)

    def test_saying_again(self):
        rules = [rule for many in (1, 2) for rule in product((1, 2, 3), repeat=many)]
        for rule in rules + [(1, 1, 2), (1, 3, 1), (1, 1, 1), (2, 1, 1)]:
            for word in ["", "a", "ab", "aab", "aaab", "aabbbc"]:
                told = word
                lengths = []
                for _ in range(6):
                    lengths.append(len(told))
                    if len(told) < 200:
                        told = plain.say(rule, told)
                for size in [0, 1, 2, 3, 4, 6, 7, 9, 15, 30]:
                    times = [many for many, length in enumerate(lengths) if length >= size]
                    if times or lengths[-1] == lengths[-2]:
                        self.assertEqual(least_times(rule, word, size), min(times, default=None), (rule, word, size))

    def test_sizes_that_are_reached_at_once_and_never(self):
        self.assertEqual(least_times((1,), "aab", 3), 0)
        self.assertEqual(least_times((2,), "", 0), 0)
        self.assertEqual(least_times((1,), "a" * 2000, 2000), 0)
        self.assertIsNone(least_times((1,), "a" * 2000, 2001))
        self.assertIsNone(least_times((2,), "", 1))
        self.assertIsNone(least_times((1, 2), "abcd", 5))
        self.assertIsNone(least_times(SLOW, "abcd" * 7, 29))
        self.assertEqual(least_times((1, 2), "aabcd", 6), 1)

    def test_up_to_ten_to_the_eighteenth_sayings(self):
        far = 10 ** 18
        self.assertEqual(least_times((2, 1), "a", far + 1), far)
        self.assertIsNone(least_times((2, 1), "a", far + 2))
        self.assertEqual(least_times((2, 1), "ab", 2 * far + 2), far)
        self.assertEqual(least_times((2, 1), "ab", 2 * far + 1), far)
        self.assertIsNone(least_times((2, 1), "ab", 2 * far + 3))
        self.assertEqual(least_times((10 ** 6, 1), "a", 10 ** 23), -(-(10 ** 23 - 1) // (10 ** 6 - 1)))
        self.assertIsNone(least_times((10 ** 6,) * 29 + (1,), "abcd", 10 ** 50))

    def test_a_size_of_ten_to_the_fiftieth(self):
        self.assertEqual(least_times((2,), "a", 10 ** 50), 167)
        self.assertEqual(least_times((10 ** 6,), "a", 10 ** 50), 9)
        self.assertEqual(least_times((10,), "a", 10 ** 50), 50)
        self.assertEqual(least_times((10,), "a", 10 ** 50 - 1), 50)
        self.assertEqual(least_times((10,), "ab" * 5, 10 ** 50), 49)
        self.assertIsNone(least_times(SLOW, "a" * 29, 10 ** 50))
        # Behind its twenty-ninth letter one more letter doubles how far the word is beyond it.
        self.assertEqual(least_times(SLOW, "a" * 30, 10 ** 50), 167)

    def test_errors(self):
        check_errors(self, least_times, [(2, 1), "aab", 10], [RULES_WITHOUT_ZEROS, WORDS, numbers(0, 10 ** 50)])
        self.assertEqual(failure(least_times, ((0, 1), "aab", 0)), (BadRule, {"index": 0}))
        self.assertEqual(failure(least_times, ((1, 0), "", 10 ** 50 + 1)), (BadRule, {"index": 1}))


class Cores(unittest.TestCase):
    def test_example(self):
        self.assertEqual(by_core(("ab", "ba", "aabb")), (("ab", (0, 2)), ("ba", (1,))))

    def test_all_tuples(self):
        words = ["", "a", "ab", "aabb", "aaa", "aba", "aabaa", "ba", "b"]
        for many in (1, 2, 3):
            for row in product(words, repeat=many):
                told = by_core(row)
                cores = [plain.core(word) for word in row]
                self.assertEqual([core for core, _ in told], sorted(set(cores), key=cores.index))
                for core, indexes in told:
                    self.assertEqual(indexes, tuple(at for at, other in enumerate(cores) if other == core))

    def test_tuples_of_one_and_of_eight(self):
        self.assertEqual(by_core(("",)), (("", (0,)),))
        self.assertEqual(by_core(("abcd" * 500,) * 8), (("abcd" * 500, tuple(range(8))),))
        self.assertEqual(by_core(("a", "b", "aa", "bb", "c", "d", "ccc", "a")), (
            ("a", (0, 2, 7)), ("b", (1, 3)), ("c", (4, 6)), ("d", (5,)),
        ))
        self.assertEqual(failure(by_core, (("a",) * 9,)), (BadNumber, {}))

    def test_errors(self):
        check_errors(self, by_core, [("ab", "ba")], [word_tuples(8)])


if __name__ == "__main__":
    unittest.main()
