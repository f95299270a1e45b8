import unittest
from collections import Counter
from itertools import product
from math import comb

import plain
from saidcounts.cores import (
    coins, cores_of_length, count_cores, count_of_length, counts_to, gaps_of_length, greatest_missing,
)
from saidcounts.errors import BadCore, BadNumber, SayError, TooLong
from wrong import CORES, COUNTS_TOLD, check_errors, failure, numbers

SMALL = plain.cores_to(7) + plain.cores_to(5, "abc") + plain.cores_to(4, "abcd")


def rows_with_length(core, size):
    """All rows of gaps with which a word with the core has so many letters, ascending."""
    if core == "":
        return [()] if size == 0 else []
    many = max(plain.marks(core))
    rows = product(range(1, size + 1), repeat=many)
    return [row for row in rows if len(plain.with_gaps(core, row)) == size]


class Cores(unittest.TestCase):
    def test_examples(self):
        self.assertEqual(cores_of_length(2, 2), ["ab", "ba"])
        self.assertEqual(count_cores((2, 1)), 3)

    def test_cores_of_length(self):
        for many, most in ((1, 6), (2, 8), (3, 6), (4, 5)):
            for size in range(most + 1):
                words = ["".join(row) for row in product("abcd"[:many], repeat=size)]
                expected = [word for word in words if plain.core(word) == word]
                self.assertEqual(cores_of_length(size, many), expected, (size, many))

    def test_limits_of_cores_of_length(self):
        self.assertEqual([cores_of_length(0, many) for many in (1, 2, 3, 4)], [[""]] * 4)
        self.assertEqual(cores_of_length(1, 4), ["a", "b", "c", "d"])
        self.assertEqual(cores_of_length(12, 1), [])
        self.assertEqual(len(cores_of_length(12, 2)), sum(
            count_cores((many, 12 - many)) for many in range(4, 9)
        ))
        self.assertTrue(all(plain.core(word) == word for word in cores_of_length(12, 2)))
        too_long = (TooLong, {"most": 5000})
        self.assertEqual(failure(cores_of_length, (8, 3)), too_long)
        self.assertEqual(failure(cores_of_length, (7, 4)), too_long)
        self.assertEqual(failure(cores_of_length, (12, 4)), too_long)
        self.assertEqual(failure(cores_of_length, (13, 4)), (BadNumber, {}))
        self.assertEqual(len(cores_of_length(7, 3)), len([word for word in plain.cores_to(7, "abc") if len(word) == 7]))
        self.assertEqual(len(cores_of_length(6, 4)), len(
            [word for word in map("".join, product("abcd", repeat=6)) if plain.core(word) == word]
        ))

    def test_lists_are_new(self):
        cores_of_length(2, 2).clear()
        self.assertEqual(cores_of_length(2, 2), ["ab", "ba"])

    def test_count_cores(self):
        found = Counter(tuple(word.count(letter) for letter in "abcd") for word in plain.words_to(6, "abcd")
                        if plain.core(word) == word)
        for told in product(range(5), repeat=4):
            if sum(told) <= 6:
                self.assertEqual(count_cores(told), found[told], told)
                for many in (1, 2, 3):
                    if not any(told[many:]):
                        self.assertEqual(count_cores(told[:many]), found[told], told)

    def test_limits_of_count_cores(self):
        self.assertEqual(count_cores((0,)), 1)
        self.assertEqual(count_cores((0, 0, 0, 0)), 1)
        self.assertEqual(count_cores((1,)), 1)
        self.assertEqual(count_cores((8,)), 0)
        self.assertEqual(count_cores((0, 8)), 0)
        self.assertEqual(count_cores((1, 1, 1, 1)), 24)
        words = ["a" * place + "b" + "a" * (8 - place) for place in range(9)]
        self.assertEqual(count_cores((8, 1)), len([word for word in words if plain.core(word) == word]))
        words = ["a" * first + "b" + "a" * more + "b" + "a" * (3 - first - more)
                 for first in range(4) for more in range(4 - first)]
        self.assertEqual(count_cores((3, 2)), len([word for word in words if plain.core(word) == word]))
        # Each choice of seven marks or fewer beside 8 is, by turns, taken away and put back.
        self.assertEqual(count_cores((8, 8)), sum(
            (-1) ** (7 - less) * comb(7, less) * comb(2 * less + 2, less + 1) for less in range(8)
        ))

    def test_counts_of_four_eights(self):
        total = 0
        for less in range(8):
            many = less + 1
            ways = comb(2 * many, many) * comb(3 * many, many) * comb(4 * many, many)
            total += (-1) ** (7 - less) * comb(7, less) * ways
        self.assertEqual(count_cores((8, 8, 8, 8)), total)

    def test_errors(self):
        check_errors(self, cores_of_length, [2, 2], [numbers(0, 12), numbers(1, 4)])
        check_errors(self, count_cores, [(2, 1)], [COUNTS_TOLD])


class Lengths(unittest.TestCase):
    def test_examples(self):
        self.assertEqual(coins("aba"), (2, 1))
        self.assertEqual(count_of_length("aba", 6), 2)
        self.assertEqual(counts_to("ab", 5), (0, 0, 1, 0, 1, 0))
        self.assertEqual(gaps_of_length("aba", 6), [(1, 4), (2, 2)])
        self.assertEqual(greatest_missing("aba"), 2)
        self.assertIsNone(greatest_missing("ab"))

    def test_coins(self):
        for core in SMALL:
            row = (1,) * max(plain.marks(core))
            grown = [row[:index] + (2,) + row[index + 1:] for index in range(len(row))]
            expected = tuple(len(plain.with_gaps(core, more)) - len(core) for more in grown)
            self.assertEqual(coins(core), expected, core)
        self.assertEqual(coins("abcd" * 500), (4,) * 500)
        self.assertEqual(coins("ab" * 500 + "ac" * 500), (3,) * 500 + (1,) * 500)

    def test_lengths_of_words_with_a_core(self):
        for core in plain.cores_to(5) + plain.cores_to(4, "abc"):
            for size in range(10):
                rows = rows_with_length(core, size)
                self.assertEqual(count_of_length(core, size), len(rows), (core, size))
                self.assertEqual(gaps_of_length(core, size), rows, (core, size))
            expected = tuple(count_of_length(core, size) for size in range(11))
            for most in (0, 1, 5, 10):
                self.assertEqual(counts_to(core, most), expected[:most + 1])

    def test_the_empty_core(self):
        self.assertEqual(coins(""), ())
        self.assertEqual(count_of_length("", 0), 1)
        self.assertEqual(count_of_length("", 2000), 0)
        self.assertEqual(counts_to("", 0), (1,))
        self.assertEqual(counts_to("", 3), (1, 0, 0, 0))
        self.assertEqual(gaps_of_length("", 0), [()])
        self.assertEqual(gaps_of_length("", 200), [])
        self.assertIsNone(greatest_missing(""))

    def test_great_sizes(self):
        self.assertEqual(count_of_length("a", 2000), 1)
        self.assertEqual(count_of_length("ab" * 500, 2000), comb(999, 499))
        self.assertEqual(count_of_length("ab" * 1000, 2000), 1)
        self.assertEqual(count_of_length("ab" * 1000, 1999), 0)
        self.assertEqual(count_of_length("abc" * 200, 1999), 0)
        self.assertEqual(count_of_length("abcd" * 300, 2000), comb(499, 299))
        # One gap pays two letters, the other one pays the rest.
        self.assertEqual(count_of_length("aba", 2000), (2000 - 1) // 2)
        self.assertEqual(counts_to("aba", 200), tuple(max(0, (size - 1) // 2) for size in range(201)))
        self.assertEqual(counts_to("ab" * 1000, 200), (0,) * 201)
        self.assertEqual(counts_to("ab" * 100, 200), (0,) * 200 + (1,))

    def test_great_rows(self):
        self.assertEqual(gaps_of_length("a", 200), [(200,)])
        self.assertEqual(gaps_of_length("aba", 200), [(gap, 200 - 2 * gap) for gap in range(1, 100)])
        self.assertEqual(gaps_of_length("ab" * 100, 200), [(1,) * 100])
        self.assertEqual(gaps_of_length("ab" * 1000, 200), [])
        self.assertEqual(len(gaps_of_length("ab" * 98, 200)), comb(99, 2))
        self.assertEqual(gaps_of_length("ab" * 99, 200)[0], (1,) * 98 + (2,))

    def test_five_thousand_rows_and_more(self):
        core = "abcd" * 7 + "abc" * 4 + "ab" * 2
        found = gaps_of_length(core, 63)
        self.assertEqual(len(found), 5000)
        self.assertEqual(found, sorted(set(found)))
        self.assertEqual(set(len(plain.with_gaps(core, row)) for row in found), {63})
        too_long = (TooLong, {"most": 5000})
        core = "ab" * 16 + "acacaccccd"
        self.assertEqual(count_of_length(core, 50), 5001)
        self.assertEqual(failure(gaps_of_length, (core, 50)), too_long)
        self.assertEqual(failure(gaps_of_length, ("abab" * 5, 200)), too_long)
        self.assertEqual(failure(gaps_of_length, ("abab" * 5, 201)), (BadNumber, {}))

    def test_greatest_missing(self):
        for core in SMALL:
            if core:
                most = 40
                counts = counts_to(core, most)
                told = greatest_missing(core)
                tail = counts[most - 11:]
                if told is None:
                    self.assertIn(0, tail)
                else:
                    self.assertEqual(counts[told], 0)
                    self.assertNotIn(0, counts[told + 1:])

    def test_kinds_of_coins(self):
        self.assertEqual(greatest_missing("a"), 0)
        self.assertEqual(greatest_missing("abcab"), 6)
        self.assertEqual(greatest_missing("abcdabc"), 12)
        self.assertEqual(greatest_missing("abcdab" + "cab"), 10)
        self.assertIsNone(greatest_missing("abcdab"))
        self.assertIsNone(greatest_missing("abc"))
        self.assertIsNone(greatest_missing("abcd" * 500))
        self.assertEqual(greatest_missing("ab" * 998 + "aba"), 1998)
        self.assertEqual(greatest_missing("abcd" * 497 + "abcabcabc"), 1997 + 5)

    def test_lists_are_new(self):
        gaps_of_length("aba", 6).clear()
        self.assertEqual(len(gaps_of_length("aba", 6)), 2)

    def test_errors(self):
        self.assertEqual(TooLong.__bases__, (SayError,))
        for call in (coins, greatest_missing):
            check_errors(self, call, ["aba"], [CORES])
        check_errors(self, count_of_length, ["aba", 6], [CORES, numbers(0, 2000)])
        for call in (counts_to, gaps_of_length):
            check_errors(self, call, ["aba", 6], [CORES, numbers(0, 200)])
        self.assertEqual(failure(gaps_of_length, ("aa", 201)), (BadCore, {}))


if __name__ == "__main__":
    unittest.main()
