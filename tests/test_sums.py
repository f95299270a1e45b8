import unittest
from itertools import combinations_with_replacement, product

import plain
from saidcounts.errors import BadNumber, BadRule, BadWord, SayError, TooGreat, TooLong
from saidcounts.marks import from_gaps
from saidcounts.sums import (
    again, final, fixed_marks, half_rule, length_after, mark_after, plain as shortest, same_rule, say_often, settles,
    stays, then, way,
)
from saidcounts.words import said, times
from wrong import RULES, WORDS, check_errors, failure, numbers

MANY = 10 ** 18
GREAT = 10 ** 60
SMALL_RULES = [rule for many in (1, 2, 3) for rule in product((0, 1, 2, 3), repeat=many)]
# Rules that put great counts back, leave them or put them further, by the same number or by more and more.
MORE_RULES = [
    (0,) * 29 + (1,), (3,) + (0,) * 20 + (1,), (0, 0, 0, 2), (0,) * 5 + (2,), (1, 1, 3, 0, 0, 1), (9, 0, 0, 1), (7, 0),
    (1, 0, 2, 0, 2, 1), (0, 0, 5, 0, 0, 1), (5,) * 30, (1,) * 30, (2, 0, 0, 3), (0, 0, 3, 1, 1, 1), (0, 4, 0, 0, 1),
]
WORDS_TO_SAY = plain.words_to(5) + ["abc", "abcabc", "aabbccdd", "abacbd", "aaaaaaab", "abbbbbbba"]


def first_numbers(rule, many=80):
    return [times(rule, number) for number in range(1, many + 1)]


class Plain(unittest.TestCase):
    def test_examples(self):
        self.assertEqual(shortest((2, 1, 1)), (2, 1))
        self.assertIs(same_rule((1,), (1, 1)), True)

    def test_shortest(self):
        for rule in SMALL_RULES + MORE_RULES:
            alike = [rule[:many] for many in range(1, len(rule) + 1)]
            alike = [other for other in alike if first_numbers(other) == first_numbers(rule)]
            self.assertEqual(shortest(rule), alike[0])

    def test_same_rule(self):
        for one, other in product(SMALL_RULES, repeat=2):
            self.assertIs(same_rule(one, other), first_numbers(one, 4) == first_numbers(other, 4))

    def test_limits(self):
        self.assertEqual(shortest((0,) * 30), (0,))
        self.assertEqual(shortest((1,) * 29 + (0,)), (1,) * 29 + (0,))
        self.assertEqual(shortest((10 ** 6,)), (10 ** 6,))

    def test_errors(self):
        check_errors(self, shortest, [(1, 2)], [RULES])
        check_errors(self, same_rule, [(1, 2), (1,)], [RULES, RULES])


class OneAfterTheOther(unittest.TestCase):
    def test_examples(self):
        self.assertEqual(then((2,), (0, 1)), (1, 2))
        self.assertEqual(again((2,), 3), (8,))

    def check_shortest(self, rule):
        self.assertIsInstance(rule, tuple)
        self.assertGreater(len(rule), 0)
        self.assertTrue(len(rule) == 1 or rule[-1] != rule[-2], rule)

    def test_then(self):
        word = "a" * 15
        for one, other in product(SMALL_RULES, repeat=2):
            both = then(one, other)
            self.check_shortest(both)
            for many in (1, 2, 3, 5, 7, 15):
                expected = plain.say(other, plain.say(one, word[:many]))
                self.assertEqual(plain.say(both, word[:many]), expected, (one, other))

    def test_then_of_many_numbers(self):
        for one, other in product(MORE_RULES, repeat=2):
            both = then(one, other)
            self.check_shortest(both)
            for count in (1, 2, 10, 29, 30, 31, 59, 60, 61, 62, 100):
                self.assertEqual(plain.put(both, count), plain.put(other, plain.put(one, count)))
        self.assertEqual(then((0,) * 29 + (1,), (0,) * 29 + (1,)), (0,) * 58 + (1,))
        self.assertEqual(then((10 ** 6,), (10 ** 6,)), (10 ** 12,))

    def test_letters_stand_for_themselves(self):
        for one, other in [((2, 0, 1), (0, 1, 2)), ((1, 3), (2, 0, 1)), ((0, 1), (3, 0, 2))]:
            for word in WORDS_TO_SAY:
                self.assertEqual(plain.say(then(one, other), word), plain.say(other, plain.say(one, word)))

    def test_again(self):
        for rule in SMALL_RULES + MORE_RULES:
            for many in (0, 1, 2, 3, 4):
                found = again(rule, many)
                self.check_shortest(found)
                for count in (1, 2, 3, 5, 31, 59, 60):
                    expected = count
                    for _ in range(many):
                        expected = plain.put(rule[:30], expected) if expected < 3000 else None
                        if expected is None:
                            break
                    if expected is not None:
                        self.assertEqual(plain.put(found, count), expected, (rule, many, count))

    def test_limits_of_again(self):
        for rule in [(0,), (1, 2), (10 ** 6,)]:
            self.assertEqual(again(rule, 0), (1,))
            self.assertEqual(again(rule, 1), rule)
        self.assertEqual(again((0,) * 29 + (1,), 12), (0,) * 348 + (1,))
        self.assertEqual(again((3,), 12), (3 ** 12,))
        self.assertEqual(again((0,), 12), (0,))
        self.assertEqual(again((10 ** 6, 0), 12), (10 ** 6, 0))

    def test_sixty_noughts(self):
        self.assertEqual(again((10 ** 6,), 10), (GREAT,))
        self.assertEqual(again((10 ** 5,), 12), (GREAT,))
        self.assertEqual(failure(again, ((10 ** 6,), 11)), (TooGreat, {"most": GREAT}))
        self.assertEqual(failure(again, ((10 ** 5 + 1,), 12)), (TooGreat, {"most": GREAT}))
        # The number for 12 sayings is 0 again, but that for 11 is too great.
        rule = (0, 10 ** 6)
        self.assertEqual(again((1, 10 ** 6), 10)[-1], GREAT)
        self.assertEqual(failure(again, (rule, 11)), (TooGreat, {"most": GREAT}))
        self.assertEqual(failure(again, (rule, 12)), (TooGreat, {"most": GREAT}))

    def test_errors(self):
        self.assertEqual(TooGreat.__bases__, (SayError,))
        check_errors(self, then, [(1, 2), (1,)], [RULES, RULES])
        check_errors(self, again, [(1, 2), 2], [RULES, numbers(0, 12)])
        self.assertEqual(failure(again, ((10 ** 6,), 13)), (BadNumber, {}))


class Marks(unittest.TestCase):
    def test_examples(self):
        self.assertEqual(mark_after((2,), 3, 4), 48)
        self.assertEqual(fixed_marks((0, 2, 1), 4), (0, 2, 3, 4))
        self.assertEqual(way((0, 1), 3), (3, 2, 1, 0))

    def test_saying_after_saying(self):
        for rule in SMALL_RULES + MORE_RULES:
            for mark in list(range(13)) + [29, 30, 31, 57, 58, 59, 60, 61]:
                place = mark
                for many in range(13):
                    self.assertEqual(mark_after(rule, mark, many), place, (rule, mark, many))
                    if place > 10 ** 4:
                        break
                    place = plain.put(rule, place)

    def test_many_sayings_of_small_steps(self):
        for rule in MORE_RULES + [(0, 1), (0, 0, 0, 1), (3, 1), (1, 2, 1), (0, 5, 1)]:
            for mark in (0, 1, 7, 30, 31, 64, 100):
                place = mark
                for many in range(1, 130):
                    place = plain.put(rule, place)
                    if place > 1000:
                        break
                    if many % 9 == 0 or many > 125:
                        self.assertEqual(mark_after(rule, mark, many), place, (rule, mark, many))

    def test_times_to_ten_to_the_eighteenth(self):
        self.assertEqual(mark_after((1,), GREAT, MANY), GREAT)
        self.assertEqual(mark_after((0,), GREAT, MANY), 0)
        self.assertEqual(mark_after((0, 1), GREAT, MANY), GREAT - MANY)
        self.assertEqual(mark_after((0, 1), MANY, MANY), 0)
        self.assertEqual(mark_after((0, 1), MANY + 3, MANY), 3)
        self.assertEqual(mark_after((2, 1), 1, MANY), 1 + MANY)
        self.assertEqual(mark_after((3, 0, 0, 1), 3 * MANY, MANY), 3 * MANY)
        self.assertEqual(mark_after((0, 0, 0, 1), 3 * MANY + 2, MANY), 2)
        self.assertEqual(mark_after((0, 0, 0, 1), 3 * MANY - 1, MANY), 0)
        self.assertEqual(mark_after((1, 0, 0, 0, 1), 10 ** 19, MANY), 10 ** 19 - 3 * MANY)
        self.assertEqual(mark_after((5, 0), GREAT, MANY), 5)
        self.assertEqual(mark_after((0,) * 29 + (2,), 58, MANY), 58)
        self.assertEqual(mark_after((0,) * 29 + (2,), 57, MANY), 0)
        self.assertEqual(mark_after((7,), 0, MANY), 0)
        self.assertEqual(mark_after((7,), GREAT, 0), GREAT)

    def test_sixty_noughts(self):
        self.assertEqual(mark_after((10,), 1, 60), GREAT)
        self.assertEqual(mark_after((2,), 1, 199), 2 ** 199)
        self.assertEqual(mark_after((2, 1), GREAT - MANY, MANY), GREAT)
        too_great = (TooGreat, {"most": GREAT})
        self.assertEqual(failure(mark_after, ((10,), 1, 61)), too_great)
        self.assertEqual(failure(mark_after, ((2,), 1, 200)), too_great)
        self.assertEqual(failure(mark_after, ((2,), 1, MANY)), too_great)
        self.assertEqual(failure(mark_after, ((2, 1), GREAT - MANY + 1, MANY)), too_great)
        self.assertEqual(failure(mark_after, ((2, 1), GREAT, 1)), too_great)
        self.assertEqual(failure(mark_after, ((0,) * 29 + (2,), 59, MANY)), too_great)

    def test_fixed_marks(self):
        for rule in SMALL_RULES + MORE_RULES:
            for most in (0, 1, 5, 70):
                expected = tuple(mark for mark in range(most + 1) if plain.put(rule, mark) == mark)
                self.assertEqual(fixed_marks(rule, most), expected)
        self.assertEqual(fixed_marks((1,), 2000), tuple(range(2001)))
        self.assertEqual(fixed_marks((0,), 2000), (0,))
        self.assertEqual(fixed_marks((2000, 0), 2000), (0, 2000))
        self.assertEqual(fixed_marks((2000, 0), 1999), (0,))

    def plain_way(self, rule, mark):
        found = [mark]
        while plain.put(rule, found[-1]) != found[-1]:
            found.append(plain.put(rule, found[-1]))
            if found[-1] > 300 or len(found) > 200:
                return None
        return tuple(found)

    def test_ways(self):
        for rule in SMALL_RULES + MORE_RULES:
            for mark in list(range(12)) + [30, 31, 58, 59]:
                self.assertEqual(way(rule, mark), self.plain_way(rule, mark), (rule, mark))

    def test_limits_of_ways(self):
        self.assertEqual(way((0, 1), 2000), tuple(range(2000, -1, -1)))
        self.assertEqual(way((5,), 0), (0,))
        self.assertIsNone(way((2,), 1))
        self.assertIsNone(way((2, 1), 2000))
        self.assertEqual(way((10 ** 6, 0), 1), (1, 10 ** 6))
        self.assertEqual(way((10 ** 6, 0), 2000), (2000, 10 ** 6))
        self.assertEqual(way((10 ** 6,) * 29 + (0,), 2000), (2000, 29 * 10 ** 6))
        self.assertEqual(way((2,) * 15 + (0,) * 15, 1), (1, 2, 4, 8, 16, 30))
        self.assertEqual(way((2,) * 14 + (0,) * 15 + (2,), 5), (5, 10, 20, 28))

    def test_errors(self):
        check_errors(self, mark_after, [(1, 2), 3, 4], [RULES, numbers(0, GREAT), numbers(0, MANY)])
        check_errors(self, mark_after, [(0,), 3, 4], [RULES, numbers(0, GREAT), numbers(0, MANY)])
        check_errors(self, fixed_marks, [(1, 2), 3], [RULES, numbers(0, 2000)])
        check_errors(self, way, [(1, 2), 3], [RULES, numbers(0, 2000)])
        self.assertEqual(failure(mark_after, ((2,), GREAT, None)), (BadNumber, {}))


class Sayings(unittest.TestCase):
    def test_examples(self):
        self.assertIs(stays((0, 2), "aabb"), True)
        self.assertEqual(settles((0, 1), "aab"), 2)
        self.assertEqual(final((3, 0), "ab"), "aaabbb")
        self.assertEqual(say_often((2, 1), "ab", 3), "aaaabbbb")
        self.assertEqual(length_after((2,), "ab", 5), 64)

    def test_stays(self):
        for rule in SMALL_RULES + MORE_RULES:
            for word in WORDS_TO_SAY:
                self.assertIs(stays(rule, word), plain.say(rule, word) == word)

    def plain_settling(self, rule, word):
        """The number of sayings and the word, None if it still changes when it is long or has often been said."""
        for many in range(70):
            said_word = plain.say(rule, word)
            if said_word == word:
                return many, word
            if len(said_word) > 200:
                return None
            word = said_word
        return None

    def test_settling(self):
        for rule in SMALL_RULES + MORE_RULES[:8]:
            for word in WORDS_TO_SAY:
                expected = self.plain_settling(rule, word)
                found = settles(rule, word)
                self.assertEqual(found, None if expected is None else expected[0], (rule, word))
                self.assertEqual(final(rule, word), None if expected is None else expected[1])
        self.assertEqual(settles((0, 1), "a" * 2000), 2000)
        self.assertEqual(final((0, 1), "a" * 2000), "")
        self.assertEqual(settles((0, 1), "abcd" * 500), 500)
        self.assertEqual(settles((0, 0, 0, 1), "a" * 2000), 667)
        self.assertEqual(settles((3,), ""), 0)
        self.assertEqual(final((3,), ""), "")
        self.assertIsNone(settles((2,), "a"))
        self.assertIsNone(settles((0, 3, 1), "ab" * 1000))

    def test_a_letter_that_falls_away_with_a_mark(self):
        # The mark 1 is put back to 0 in the second saying only, and the runs beside it come together at once.
        for rule in [(0, 2, 0, 2), (0, 1, 1, 2, 1), (0, 3, 0), (1, 0, 2)]:
            for word in plain.words_to(7):
                expected = self.plain_settling(rule, word)
                self.assertEqual(settles(rule, word), None if expected is None else expected[0])

    def test_final_words_of_many_letters(self):
        self.assertEqual(final((20000, 0), "a"), "a" * 20000)
        self.assertEqual(final((10000, 0), "ab"), "a" * 10000 + "b" * 10000)
        self.assertEqual(failure(final, ((20001, 0), "a")), (TooLong, {"most": 20000}))
        self.assertEqual(failure(final, ((10 ** 6, 0), "aba")), (TooLong, {"most": 20000}))
        self.assertEqual(settles((10 ** 6, 0), "aba"), 1)
        self.assertEqual(failure(final, ((10 ** 6, 0), "ax")), (BadWord, {"place": 1}))

    def test_say_often(self):
        for rule in [rule for rule in SMALL_RULES if 0 not in rule] + [(1, 1, 4, 1), (1,) * 29 + (2,), (2,) + (1,) * 29]:
            for word in WORDS_TO_SAY:
                told = word
                for many in range(6):
                    self.assertEqual(say_often(rule, word, many), told)
                    told = plain.say(rule, told)
                    if len(told) > 2000:
                        break

    def test_length_after(self):
        for rule in SMALL_RULES + MORE_RULES:
            for word in WORDS_TO_SAY[::3] + ["abcd", "aabbbc"]:
                told = word
                for many in range(5):
                    self.assertEqual(length_after(rule, word, many), len(told))
                    told = plain.say(rule, told)
                    if len(told) > 2000:
                        break

    def test_many_sayings(self):
        self.assertEqual(say_often((1,), "aabba", MANY), "aabba")
        self.assertEqual(say_often((1, 1, 2), "aabba", 3), "aabb" + "a" * 8)
        self.assertEqual(say_often((1, 1, 5), "aabb", MANY), "aabb")
        self.assertEqual(say_often((9,), "", MANY), "")
        self.assertEqual(say_often((2,), "a", 14), "a" * 16384)
        self.assertEqual(say_often((2, 1), "ab", 9999), "a" * 10000 + "b" * 10000)
        self.assertEqual(length_after((2,), "ab", 199), 2 ** 200)
        self.assertEqual(length_after((10,), "abcd", 60), 4 * GREAT)
        self.assertEqual(length_after((0, 1), "abcabab", MANY), 0)
        self.assertEqual(length_after((2, 1), "ab", MANY), 2 * (MANY + 1))
        self.assertEqual(length_after((10 ** 6,) * 29 + (0,), "a" * 2000, MANY), 29 * 10 ** 6)

    def test_too_long_and_too_great(self):
        too_long, too_great = (TooLong, {"most": 20000}), (TooGreat, {"most": GREAT})
        self.assertEqual(failure(say_often, ((2,), "a", 15)), too_long)
        self.assertEqual(failure(say_often, ((2, 1), "ab", 10000)), too_long)
        self.assertEqual(failure(say_often, ((2, 1), "a", MANY)), too_long)
        self.assertEqual(failure(say_often, ((10,), "ab", 60)), too_long)
        self.assertEqual(failure(say_often, ((10,), "ab", 61)), too_great)
        self.assertEqual(failure(say_often, ((2,), "a", MANY)), too_great)
        self.assertEqual(failure(say_often, ((1, 2), "ab" + "b", MANY)), too_great)
        self.assertEqual(failure(length_after, ((10,), "aabcd", 60)), too_great)
        self.assertEqual(failure(length_after, ((0, 0, 0, 2), "a" * 7, MANY)), too_great)
        self.assertEqual(length_after((0, 0, 0, 2), "a" * 6, MANY), 6)
        self.assertEqual(length_after((0, 0, 0, 2), "a" * 5, MANY), 0)

    def test_a_rule_with_zeros_behind_the_times(self):
        for rule in [(0,), (1, 0), (0, 1), (1,) * 29 + (0,)]:
            self.assertEqual(failure(say_often, (rule, "ab", 2)), (BadNumber, {}))
            self.assertEqual(failure(say_often, (rule, "", 0)), (BadNumber, {}))
            self.assertEqual(failure(say_often, (rule, "ax", 2)), (BadWord, {"place": 1}))
        self.assertEqual(failure(say_often, ((0, -1), "ab", 2)), (BadRule, {"index": 1}))
        self.assertEqual(failure(say_often, ((0, 10 ** 6), "aaa", MANY)), (BadNumber, {}))

    def test_errors(self):
        for call in (stays, settles, final):
            check_errors(self, call, [(1, 2), "ab"], [RULES, WORDS])
            check_errors(self, call, [(0, 1), "ab"], [RULES, WORDS])
        for call in (say_often, length_after):
            check_errors(self, call, [(1, 2), "ab", 3], [RULES, WORDS, numbers(0, MANY)])
            self.assertEqual(failure(call, ((2,), "ab", MANY + 1)), (BadNumber, {}))


def halves(rule, many, most):
    """All tuples of sums for the counts up to many, by trying all rising tables of places up to most."""
    found = set()
    goals = [plain.put(rule, count) for count in range(many + 1)]
    for row in combinations_with_replacement(range(most + 1), most):
        places = (0,) + row
        if all(places[places[count]] == goals[count] for count in range(many + 1)):
            found.add(places[:many + 1])
    return sorted(found)


class Halves(unittest.TestCase):
    def test_examples(self):
        self.assertEqual(half_rule((4,), 2), (0, 2, 4))

    def test_all_tables(self):
        for many in range(4):
            for sums in combinations_with_replacement(range(6), many):
                rule = tuple(high - low for low, high in zip((0,) + sums, sums)) or (1,)
                found = halves(rule, many, max((many,) + sums))
                self.assertEqual(half_rule(rule, many), found[0] if found else None, (rule, many))

    def test_more_rules(self):
        self.assertEqual(half_rule((1,), 6), tuple(range(7)))
        self.assertEqual(half_rule((0,), 6), (0,) * 7)
        self.assertIsNone(half_rule((0, 1), 6))
        self.assertEqual(half_rule((0, 1), 1), (0, 0))
        self.assertEqual(half_rule((0, 0, 1), 6), (0, 0, 1, 2, 3, 4, 5))
        self.assertEqual(half_rule((9,), 0), (0,))
        self.assertIsNone(half_rule((2,), 6))
        for rule in [(13, 1, 0, 0, 6, 3), (4,), (0, 5, 0, 3, 1), (6, 0, 2, 10), (1, 3, 2)]:
            found = half_rule(rule, 6)
            places = {}
            for count, place in enumerate(found):
                self.assertEqual(places.setdefault(count, place), place)
                goal = plain.put(rule, count)
                self.assertEqual(places.setdefault(place, goal), goal)
            self.assertEqual([places[count] for count in sorted(places)], sorted(places.values()))

    def test_forty(self):
        self.assertIsNotNone(half_rule((40, 0), 6))
        self.assertEqual(half_rule((10, 0, 0, 0, 0, 30), 6), (0, 6, 6, 6, 6, 6, 10))
        self.assertEqual(half_rule((41, 0), 0), (0,))
        for rule, many in [((41, 0), 1), ((10 ** 6,), 6), ((10, 0, 0, 0, 0, 31), 6), ((20, 21), 2)]:
            self.assertEqual(failure(half_rule, (rule, many)), (TooGreat, {"most": 40}))
        self.assertIsNotNone(half_rule((10, 0, 0, 0, 0, 31), 5))

    def test_errors(self):
        check_errors(self, half_rule, [(1, 2), 3], [RULES, numbers(0, 6)])
        self.assertEqual(failure(half_rule, ((10 ** 6,), 7)), (BadNumber, {}))


if __name__ == "__main__":
    unittest.main()
