import unittest
from itertools import product
from math import prod

import plain
from saidcounts.errors import BadGaps, BadNumber, TooGreat
from saidcounts.marks import from_gaps
from saidcounts.order import unsayings
from saidcounts.talls import (
    scaled, tall_any, tall_distance, tall_grows, tall_join, tall_meet, tall_nim, tall_of, tall_rank, tall_turn,
    tall_unsaying, tall_unsayings, unit_of,
)
from wrong import CORES, RULES, TWO_TALL_GAPS, WORDS, check_errors, failure, numbers

GREAT = 10 ** 60
TOO_GREAT = (TooGreat, {"most": GREAT})
TALL = plain.tall_words(5, 3) + plain.tall_words(3, 2, "abcd")
CORES_OF_GAPS = [("", 0), ("a", 1), ("ab", 1), ("aba", 2), ("abab", 2), ("abcabca", 3)]


class Saying(unittest.TestCase):
    def test_examples(self):
        self.assertEqual(tall_of("aabba"), ("aba", (2, 1)))
        self.assertEqual(tall_any((0, 1), "aba", (1, 1)), ("a", (1,)))

    def test_cores_and_gaps(self):
        for word in plain.words_to(7) + plain.words_to(4, "abcd"):
            self.assertEqual(tall_of(word), (plain.core(word), plain.gaps(word)))
        self.assertEqual(tall_of("a" * 2000), ("a", (2000,)))
        self.assertEqual(tall_of("ab" * 1000), ("ab" * 1000, (1,) * 1000))

    def test_rules_with_zeros(self):
        rules = [(1,), (0,), (2,), (0, 1), (1, 0), (0, 0, 2), (2, 0, 1), (1, 1, 0, 3), (0, 2, 0, 0, 1)]
        for told, row, word in TALL:
            for rule in rules:
                expected = plain.say(rule, word)
                self.assertEqual(tall_any(rule, told, row), (plain.core(expected), plain.gaps(expected)))

    def test_runs_that_come_together(self):
        self.assertEqual(tall_any((0, 1), "abacaba", (1, 5, 7, 9)), ("aaba", (5, 7, 9)))
        self.assertEqual(tall_any((0, 1), "abaca", (1, 5, 7)), ("a", (12,)))
        self.assertEqual(tall_any((0,), "abaca", (GREAT, 5, 7)), ("", ()))

    def test_gaps_of_sixty_noughts_and_one_more(self):
        self.assertEqual(tall_any((1,), "aba", (GREAT, GREAT)), ("aba", (GREAT, GREAT)))
        self.assertEqual(tall_any((10 ** 6,), "aba", (10 ** 54, 1)), ("aba", (GREAT, 10 ** 6)))
        self.assertEqual(failure(tall_any, ((10 ** 6,), "aba", (10 ** 54 + 1, 1))), TOO_GREAT)
        self.assertEqual(failure(tall_any, ((2, 1), "aba", (GREAT, 1))), TOO_GREAT)
        self.assertEqual(tall_any((2, 1), "aba", (GREAT - 1, GREAT)), ("aba", (GREAT, GREAT)))
        self.assertEqual(tall_any((0, 1), "abaca", (1, GREAT - 1, 1)), ("a", (GREAT,)))
        self.assertEqual(failure(tall_any, ((0, 1), "abaca", (1, GREAT, 1))), TOO_GREAT)
        self.assertEqual(tall_any((5, 0), "aba", (GREAT, GREAT)), ("ab", (5,)))

    def test_the_empty_core(self):
        self.assertEqual(tall_of(""), ("", ()))
        self.assertEqual(tall_any((3,), "", ()), ("", ()))

    def test_errors(self):
        check_errors(self, tall_of, ["ab"], [WORDS])
        check_errors(self, tall_any, [(1, 2), "aba", (2, 1)], [RULES, CORES, TWO_TALL_GAPS])


class TwoRows(unittest.TestCase):
    def test_examples(self):
        self.assertEqual(tall_join("aba", (5, 1), (1, 2)), (5, 2))
        self.assertEqual(tall_meet("aba", (5, 1), (1, 2)), (1, 1))
        self.assertIs(tall_grows("a", (3,), (9,)), True)
        self.assertEqual(tall_distance("a", (3,), (9,)), 6)

    def test_all_small_rows(self):
        for word, many in CORES_OF_GAPS:
            rows = plain.rows_of_gaps(many, 3)
            words = [from_gaps(word, row) for row in rows]
            under_all = [unsayings(told) for told in words]
            below = {pair: True for pair in product(rows, repeat=2)}
            for one, other in below:
                below[one, other] = words[rows.index(one)] in under_all[rows.index(other)]
            for one, other in product(rows, repeat=2):
                above = [row for row in rows if below[one, row] and below[other, row]]
                under = [row for row in rows if below[row, one] and below[row, other]]
                self.assertEqual(tall_join(word, one, other), min(above, key=sum))
                self.assertEqual(tall_meet(word, one, other), max(under, key=sum))
                self.assertIs(tall_grows(word, one, other), below[one, other])
                steps = sum(max(gap, more) - min(gap, more) for gap, more in zip(one, other))
                self.assertEqual(tall_distance(word, one, other), steps)

    def test_great_gaps(self):
        self.assertEqual(tall_join("aba", (1, GREAT), (GREAT, 1)), (GREAT, GREAT))
        self.assertEqual(tall_meet("aba", (1, GREAT), (GREAT, 1)), (1, 1))
        self.assertEqual(tall_distance("aba", (1, GREAT), (GREAT, 1)), 2 * GREAT - 2)
        self.assertIs(tall_grows("aba", (1, GREAT), (GREAT, 1)), False)
        self.assertIs(tall_grows("aba", (1, GREAT), (1, GREAT)), True)
        self.assertEqual(tall_distance("aba", (7, GREAT), (7, GREAT)), 0)

    def test_the_empty_core(self):
        self.assertEqual(tall_join("", (), ()), ())
        self.assertEqual(tall_meet("", (), ()), ())
        self.assertIs(tall_grows("", (), ()), True)
        self.assertEqual(tall_distance("", (), ()), 0)

    def test_errors(self):
        for call in (tall_join, tall_meet, tall_grows, tall_distance, tall_rank):
            check_errors(self, call, ["aba", (2, 1), (3, 3)], [CORES, TWO_TALL_GAPS, TWO_TALL_GAPS])


class Unsayings(unittest.TestCase):
    def test_examples(self):
        self.assertEqual(tall_unsayings("aba", (5, 4)), 20)
        self.assertEqual(tall_unsaying("aba", (5, 4), 6), (2, 3))
        self.assertEqual(tall_rank("aba", (5, 4), (2, 3)), 6)

    def test_all_of_small_words(self):
        for word, many in CORES_OF_GAPS:
            for told in plain.rows_of_gaps(many, 3):
                rows = list(product(*[range(1, gap + 1) for gap in told]))
                self.assertEqual(tall_unsayings(word, told), len(rows))
                found = [tall_unsaying(word, told, rank) for rank in range(len(rows) + 1)]
                self.assertEqual(found, rows + [None])
                for less in plain.rows_of_gaps(many, 4):
                    expected = rows.index(less) if less in rows else None
                    self.assertEqual(tall_rank(word, told, less), expected)

    def test_great_gaps(self):
        told = (GREAT, 7, GREAT)
        self.assertEqual(tall_unsayings("abcabca", told), 7 * GREAT ** 2)
        self.assertEqual(tall_unsaying("abcabca", told, 7 * GREAT ** 2 - 1), told)
        self.assertIsNone(tall_unsaying("abcabca", told, 7 * GREAT ** 2))
        self.assertEqual(tall_unsaying("abcabca", told, 3 * GREAT + 4), (1, 4, 5))
        self.assertEqual(tall_rank("abcabca", told, (1, 4, 5)), 3 * GREAT + 4)
        self.assertEqual(tall_rank("abcabca", told, told), 7 * GREAT ** 2 - 1)
        self.assertIsNone(tall_rank("abcabca", told, (1, 8, 1)))
        self.assertEqual(failure(tall_rank, ("abcabca", told, (1, 4, GREAT + 1))), (BadGaps, {}))
        self.assertEqual(failure(tall_rank, ("abcabca", told, (1, 4))), (BadGaps, {}))
        self.assertEqual(tall_unsayings("ab" * 1000, (2,) * 1000), prod([2] * 1000))

    def test_errors(self):
        check_errors(self, tall_unsayings, ["aba", (2, 1)], [CORES, TWO_TALL_GAPS])
        check_errors(self, tall_unsaying, ["aba", (2, 1), 0], [CORES, TWO_TALL_GAPS, numbers(0)])


def nim_by_turns(row, known):
    """The nim number of a row of gaps, from those of all rows that a turn makes."""
    if row not in known:
        reached = {nim_by_turns(other, known) for _, other in turns(row)}
        known[row] = min(number for number in range(len(reached) + 1) if number not in reached)
    return known[row]


def turns(row):
    """All turns: pairs of level and gap that is left, with the row of gaps that is left."""
    found = []
    for index, gap in enumerate(row):
        found += [((index + 1, left), row[:index] + (left,) + row[index + 1:]) for left in range(1, gap)]
    return found


class Nim(unittest.TestCase):
    def test_examples(self):
        self.assertEqual(tall_nim("aba", (5, 4)), 7)
        self.assertEqual(tall_turn("aba", (5, 4)), (1, 4))

    def test_all_small_rows(self):
        known = {}
        for word, many in CORES_OF_GAPS:
            for row in plain.rows_of_gaps(many, 5):
                self.assertEqual(tall_nim(word, row), nim_by_turns(row, known))
                good = [turn for turn, other in turns(row) if nim_by_turns(other, known) == 0]
                self.assertEqual(tall_turn(word, row), min(good, default=None))

    def test_great_gaps(self):
        self.assertEqual(tall_nim("aba", (GREAT, GREAT)), 0)
        self.assertIsNone(tall_turn("aba", (GREAT, GREAT)))
        self.assertEqual(tall_nim("aba", (GREAT, 1)), GREAT - 1)
        self.assertEqual(tall_turn("aba", (GREAT, 1)), (1, 1))
        self.assertEqual(tall_turn("aba", (GREAT - 5, GREAT)), (2, GREAT - 5))
        self.assertEqual(tall_nim("", ()), 0)
        self.assertIsNone(tall_turn("", ()))
        self.assertIsNone(tall_turn("aba", (1, 1)))

    def test_errors(self):
        for call in (tall_nim, tall_turn):
            check_errors(self, call, ["aba", (2, 1)], [CORES, TWO_TALL_GAPS])


class Scales(unittest.TestCase):
    def test_examples(self):
        self.assertEqual(scaled("aba", (1, 2), 3), (3, 6))
        self.assertEqual(unit_of("aba", (4, 6)), (2, (2, 3)))

    def test_scaled_words(self):
        for told, row, word in TALL:
            for many in (1, 2, 5):
                self.assertEqual(scaled(told, row, many), plain.gaps(plain.say((many,), word)))

    def test_units(self):
        for told, row, _ in plain.tall_words(4, 6):
            good = [many for many in range(1, 7) if all(gap % many == 0 for gap in row)]
            many = good[-1] if row else 1
            self.assertEqual(unit_of(told, row), (many, tuple(gap // many for gap in row)))

    def test_limits(self):
        self.assertEqual(scaled("aba", (1, 10), 10 ** 59), (10 ** 59, GREAT))
        self.assertEqual(failure(scaled, ("aba", (1, 11), 10 ** 59)), TOO_GREAT)
        self.assertEqual(scaled("aba", (1, 1), GREAT), (GREAT, GREAT))
        self.assertEqual(failure(scaled, ("aba", (1, 2), GREAT)), TOO_GREAT)
        self.assertEqual(failure(scaled, ("aba", (1, 2), GREAT + 1)), (BadNumber, {}))
        self.assertEqual(failure(scaled, ("aba", (GREAT, 2), 2)), TOO_GREAT)
        self.assertEqual(scaled("aba", (GREAT, 2), 1), (GREAT, 2))
        self.assertEqual(scaled("", (), GREAT), ())
        self.assertEqual(unit_of("", ()), (1, ()))
        self.assertEqual(unit_of("aba", (GREAT, GREAT)), (GREAT, (1, 1)))
        self.assertEqual(unit_of("aba", (GREAT, 1)), (1, (GREAT, 1)))
        self.assertEqual(unit_of("aba", (GREAT, 15)), (5, (GREAT // 5, 3)))

    def test_errors(self):
        check_errors(self, unit_of, ["aba", (2, 1)], [CORES, TWO_TALL_GAPS])
        check_errors(self, scaled, ["aba", (2, 1), 3], [CORES, TWO_TALL_GAPS, numbers(1, GREAT)])


if __name__ == "__main__":
    unittest.main()
