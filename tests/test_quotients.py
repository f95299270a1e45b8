import unittest
from itertools import product
from math import comb

from saidcounts.quotients import ahead, behind, can_behind, count_ahead_of, count_behind
from saidcounts.words import rule_sum
from wrong import RULES, check_errors, numbers

SMALL_RULES = [rule for many in (1, 2, 3) for rule in product((0, 1, 2), repeat=many)]


def sums(rule, many):
    return [rule_sum(rule, count) for count in range(many + 1)]


def rows_behind(one, whole, many):
    """All rows behind a rule, by trying every tuple that is not plainly too great."""
    asked = list(zip(sums(one, many), sums(whole, many)))
    most = asked[-1][1]
    rows = product(range(most + 1), repeat=asked[-1][0])
    return [row for row in rows if all(sum(row[:place]) == goal for place, goal in asked)]


def rising(many, most):
    """All tuples to which a rule may put the counts from 0 to many, with places up to most."""
    found = [(0,)]
    for _ in range(many):
        found = [row + (place,) for row in found for place in range(row[-1], most + 1)]
    return found


def rows_ahead(last, whole, many, most):
    """All tuples of places up to most from which a rule puts counts where the whole one does."""
    goals = sums(whole, many)
    reached = sums(last, most)
    return [row for row in rising(many, most) if [reached[place] for place in row] == goals]


class Behind(unittest.TestCase):
    def test_examples(self):
        self.assertEqual(behind((2,), (4,), 2), (0, 4, 0, 4))
        self.assertIsNone(behind((0, 1), (1,), 2))
        self.assertIs(can_behind((1,), (3,), 4), True)
        self.assertEqual(count_behind((2,), (2,), 1), 3)

    def test_all_rows(self):
        for one, whole in product(SMALL_RULES, repeat=2):
            for many in range(3):
                rows = rows_behind(one, whole, many)
                self.assertEqual(count_behind(one, whole, many), len(rows))
                self.assertIs(can_behind(one, whole, many), bool(rows))
                # The least row has its numbers as far behind as can be.
                self.assertEqual(behind(one, whole, many), min(rows, default=None))

    def test_limits(self):
        self.assertEqual(behind((5,), (7,), 0), ())
        self.assertEqual(count_behind((5,), (7,), 0), 1)
        self.assertIs(can_behind((0,), (7,), 0), True)
        self.assertIs(can_behind((0,), (0,), 12), True)
        self.assertEqual(behind((0,), (0,), 12), ())
        self.assertEqual(count_behind((0,), (0,), 12), 1)
        self.assertEqual(count_behind((0, 1), (1,), 12), 0)
        self.assertEqual(behind((1,), tuple(range(12)), 12), tuple(range(12)))
        self.assertIs(can_behind((1,) * 11 + (0,), (1,), 12), False)
        self.assertIs(can_behind((1,) * 11 + (0,), (1,), 11), True)
        self.assertEqual(count_behind((3,), (4,), 12), comb(6, 2) ** 12)

    def test_great_numbers(self):
        self.assertEqual(behind((10 ** 6,), (10 ** 6,), 2), ((0,) * (10 ** 6 - 1) + (10 ** 6,)) * 2)
        self.assertEqual(count_behind((1,), (10 ** 6,), 12), 1)
        self.assertEqual(count_behind((10 ** 6,), (1,), 12), 10 ** 72)
        self.assertEqual(count_behind((2, 3), (10 ** 6, 10 ** 5), 2), (10 ** 6 + 1) * comb(10 ** 5 + 2, 2))

    def test_errors(self):
        for call in (behind, can_behind, count_behind):
            check_errors(self, call, [(1,), (2,), 2], [RULES, RULES, numbers(0, 12)])


class Ahead(unittest.TestCase):
    def test_examples(self):
        self.assertEqual(ahead((2,), (4,), 2), (0, 2, 4))
        self.assertIsNone(count_ahead_of((1, 0), (1, 0), 1))

    def test_all_rows(self):
        for last, whole in product(SMALL_RULES, repeat=2):
            for many in range(4):
                # No place above 3 numbers and 3 counts times 2 is needed, so more places mean endlessly many.
                rows = rows_ahead(last, whole, many, 9)
                more = rows_ahead(last, whole, many, 10)
                self.assertEqual(ahead(last, whole, many), min(rows, default=None))
                expected = len(rows) if len(rows) == len(more) else None
                self.assertEqual(count_ahead_of(last, whole, many), expected, (last, whole, many))

    def test_limits(self):
        self.assertEqual(ahead((0,), (5,), 0), (0,))
        self.assertEqual(count_ahead_of((0,), (5,), 0), 1)
        self.assertEqual(ahead((0,), (0,), 12), (0,) * 13)
        self.assertIsNone(count_ahead_of((0,), (0,), 1))
        self.assertIsNone(ahead((2,), (3,), 1))
        self.assertEqual(count_ahead_of((2,), (3,), 1), 0)
        self.assertEqual(ahead((1,), (10 ** 6,), 12), tuple(10 ** 6 * count for count in range(13)))
        self.assertEqual(count_ahead_of((1,), (10 ** 6,), 12), 1)
        self.assertEqual(ahead((0,) * 29 + (7,), (7,), 2), (0, 30, 31))
        self.assertEqual(count_ahead_of((0,) * 29 + (7,), (0, 7), 2), 30)
        self.assertEqual(count_ahead_of((0,) * 29 + (7,), (0,), 12), comb(41, 12))

    def test_none_at_all_comes_before_endlessly_many(self):
        self.assertEqual(count_ahead_of((1, 0), (1, 1), 2), 0)
        self.assertEqual(count_ahead_of((3, 0), (3, 1), 2), 0)

    def test_errors(self):
        for call in (ahead, count_ahead_of):
            check_errors(self, call, [(1,), (2,), 2], [RULES, RULES, numbers(0, 12)])


if __name__ == "__main__":
    unittest.main()
