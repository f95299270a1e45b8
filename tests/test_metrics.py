import unittest
from itertools import product

import plain
from saidcounts.errors import TooLong
from saidcounts.marks import from_gaps, gaps
from saidcounts.metrics import (
    count_ways, distance, is_between, middle, nearest_core, way_to, within, word_between,
)
from wrong import WORDS, check_errors, failure, numbers

ROWS = {core: list(product((1, 2, 3), repeat=many)) for core, many in [("", 0), ("a", 1), ("aba", 2), ("abcbab", 3)]}
LOTS = [[from_gaps(core, row) for row in ROWS[core]] for core in ROWS]
UNLIKE = [("ab", "ba"), ("", "a"), ("aab", "ab"), ("abc", "abd")]


def neighbors(row):
    """The rows of gaps one step away."""
    for place, rise in product(range(len(row)), (-1, 1)):
        if row[place] + rise >= 1:
            yield row[:place] + (row[place] + rise,) + row[place + 1:]


def search(start, far):
    """For each row of gaps at most so many steps away how many steps it is away, and in how many ways."""
    steps = {start: 0}
    ways = {start: 1}
    queue = [start]
    for row in queue:
        if steps[row] == far:
            continue
        for other in neighbors(row):
            if other not in steps:
                steps[other] = steps[row] + 1
                ways[other] = 0
                queue.append(other)
            if steps[other] == steps[row] + 1:
                ways[other] += ways[row]
    return steps, ways


class Distances(unittest.TestCase):
    def test_examples(self):
        self.assertEqual(distance("a", "aaa"), 2)
        self.assertEqual(count_ways("aba", "aabbaa"), 2)
        self.assertEqual(nearest_core("aabba"), 1)

    def test_shortest_ways(self):
        for words in LOTS:
            for one in words:
                steps, ways = search(plain.gaps(one), 6)
                for other in words:
                    self.assertEqual(distance(one, other), steps[plain.gaps(other)])
                    self.assertEqual(count_ways(one, other), ways[plain.gaps(other)])

    def test_unlike_cores(self):
        self.assertIsNone(distance("ab", "ba"))
        self.assertEqual(count_ways("ab", "ba"), 0)
        self.assertIsNone(distance("", "a"))
        self.assertEqual(count_ways("", "a"), 0)
        self.assertEqual(distance("aab", "abbb"), None)

    def test_far_words(self):
        self.assertEqual(distance("a", "a" * 2000), 1999)
        self.assertEqual(count_ways("a", "a" * 2000), 1)
        self.assertEqual(distance("abab" * 250, "ab" * 500), 0)
        self.assertEqual(distance("aabb" * 250 + "ab" * 250, "ab" * 250 + "aabb" * 250), 500)

    def test_nearest_core(self):
        self.assertEqual(nearest_core(""), 0)
        self.assertEqual(nearest_core("ab" * 1000), 0)
        self.assertEqual(nearest_core("a" * 2000), 1999)
        for words in LOTS:
            for word in words:
                self.assertEqual(nearest_core(word), distance(word, plain.core(word)))

    def test_errors(self):
        for call in (distance, count_ways):
            check_errors(self, call, ["ab", "aabb"], [WORDS, WORDS])
        check_errors(self, nearest_core, ["ab"], [WORDS])


class Ways(unittest.TestCase):
    def test_gap_by_gap(self):
        self.assertEqual(way_to("a", "aa"), ["a", "aa"])
        rows = [gaps(word) for word in way_to(from_gaps("abcbab", (2, 1, 4)), from_gaps("abcbab", (4, 1, 2)))]
        self.assertEqual(rows, [(2, 1, 4), (3, 1, 4), (4, 1, 4), (4, 1, 3), (4, 1, 2)])

    def test_each_step(self):
        for words in LOTS:
            for one, other in product(words, repeat=2):
                way = way_to(one, other)
                self.assertIsInstance(way, list)
                self.assertEqual((way[0], way[-1]), (one, other))
                self.assertEqual(len(way), distance(one, other) + 1)
                changed = []
                for here, there in zip(way, way[1:]):
                    self.assertEqual(plain.core(there), plain.core(one))
                    rises = [high - low for low, high in zip(plain.gaps(here), plain.gaps(there))]
                    changed.append([abs(rise) for rise in rises].index(1))
                    self.assertEqual(sum(abs(rise) for rise in rises), 1)
                self.assertEqual(changed, sorted(changed))

    def test_limits(self):
        self.assertEqual(way_to("", ""), [""])
        self.assertEqual(way_to("aab", "aab"), ["aab"])
        self.assertEqual(way_to("a", "a" * 301), ["a" * size for size in range(1, 302)])
        self.assertEqual(way_to("a" * 301, "a"), ["a" * size for size in range(301, 0, -1)])
        self.assertEqual(failure(way_to, ("a", "a" * 302)), (TooLong, {"most": 300}))
        self.assertEqual(failure(way_to, ("a" * 302, "a")), (TooLong, {"most": 300}))
        self.assertIsNone(way_to("a", "b" * 1000))
        self.assertIsNone(way_to("", "a"))

    def test_lists_are_new(self):
        way_to("a", "aa").clear()
        self.assertEqual(way_to("a", "aa"), ["a", "aa"])

    def test_errors(self):
        check_errors(self, way_to, ["ab", "aabb"], [WORDS, WORDS])


class Between(unittest.TestCase):
    def test_examples(self):
        self.assertEqual(middle("a", "aa", "aaaa"), "aa")
        self.assertIs(is_between("a", "aa", "aaa"), True)
        self.assertEqual(word_between("a", "aaa", 1), "aa")

    def on_ways(self, one, other, words):
        return [word for word in words if distance(one, word) + distance(word, other) == distance(one, other)]

    def test_is_between(self):
        for words in LOTS:
            for one, other in product(words, repeat=2):
                inner = self.on_ways(one, other, words)
                for word in words:
                    self.assertIs(is_between(one, word, other), word in inner)

    def test_middle(self):
        for words in LOTS[:3]:
            for one, other, third in product(words, repeat=3):
                inner = [
                    word for word in words
                    if is_between(one, word, other) and is_between(one, word, third) and is_between(other, word, third)
                ]
                self.assertEqual([middle(one, other, third)], inner)

    def test_unlike_cores(self):
        for one, other in UNLIKE:
            for words in [(one, one, other), (one, other, one), (other, one, one)]:
                self.assertIsNone(middle(*words))
                self.assertIs(is_between(*words), False)
        self.assertEqual(middle("", "", ""), "")
        self.assertIs(is_between("", "", ""), True)

    def test_word_between(self):
        for words in LOTS:
            for one, other in product(words, repeat=2):
                low, high = plain.gaps(one), plain.gaps(other)
                inner = list(product(*[range(less, more + 1) for less, more in zip(low, high)]))
                found = [word_between(one, other, rank) for rank in range(len(inner) + 1)]
                self.assertEqual([plain.gaps(word) for word in found[:-1]], inner)
                self.assertIsNone(found[-1])
                self.assertTrue(all(plain.core(word) == plain.core(one) for word in found[:-1]))

    def test_word_between_of_no_saying(self):
        for one, other in UNLIKE + [("aa", "a"), ("aabba", "abaa")]:
            self.assertIsNone(word_between(one, other, 0))
        self.assertEqual(word_between("", "", 0), "")
        self.assertIsNone(word_between("", "", 1))
        self.assertIsNone(word_between("a", "aaa", 10 ** 70))

    def test_errors(self):
        check_errors(self, middle, ["ab", "aabb", "ab"], [WORDS, WORDS, WORDS])
        check_errors(self, is_between, ["ab", "aabb", "ab"], [WORDS, WORDS, WORDS])
        check_errors(self, word_between, ["ab", "aabb", 0], [WORDS, WORDS, numbers(0)])
        check_errors(self, word_between, ["ab", "ba", 0], [WORDS, WORDS, numbers(0)])


class Within(unittest.TestCase):
    def test_words_near(self):
        self.assertEqual(within("aa", 1), 3)
        for words in LOTS:
            for word in words:
                for far in range(6):
                    self.assertEqual(within(word, far), len(search(plain.gaps(word), far)[0]))

    def test_limits(self):
        self.assertEqual(within("", 0), 1)
        self.assertEqual(within("", 300), 1)
        self.assertEqual(within("a", 300), 301)
        self.assertEqual(within("a" * 2000, 300), 601)
        self.assertEqual(within("a" * 300, 300), 600)
        self.assertEqual(within("a" * 301, 300), 601)
        self.assertEqual(within("ab" * 1000, 0), 1)
        self.assertEqual(within("ab" * 1000, 1), 1001)
        self.assertEqual(within("ab" * 1000, 2), 1 + 1000 + 1000 + 1000 * 999 // 2)
        self.assertEqual(within("aabb" * 500, 1), 1001)

    def test_errors(self):
        check_errors(self, within, ["ab", 0], [WORDS, numbers(0, 300)])


if __name__ == "__main__":
    unittest.main()
