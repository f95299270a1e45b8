import unittest
from itertools import product

from plain import say, words_to
from saidcounts.errors import BadNumber, BadRule, BadWord, SayError, TooLong
from saidcounts.words import counts, from_walk, length_said, rule_sum, said, times, walk
from wrong import NO_NUMBERS, NO_TUPLES, RULES, WORDS, check_errors, numbers


class Errors(unittest.TestCase):
    def test_each_is_a_direct_subclass(self):
        self.assertEqual(SayError.__bases__, (ValueError,))
        for error in (BadWord, BadRule, BadNumber, TooLong):
            self.assertEqual(error.__bases__, (SayError,))

    def test_fields(self):
        self.assertEqual(BadWord(3).place, 3)
        self.assertEqual(BadRule(None).index, None)
        self.assertEqual(TooLong(5).most, 5)


class Times(unittest.TestCase):
    def test_numbers(self):
        self.assertEqual([times((4, 7, 0), number) for number in range(1, 6)], [4, 7, 0, 0, 0])
        self.assertEqual(times((4, 7), 9), 7)

    def test_limits(self):
        self.assertEqual(times((10 ** 6,), 10 ** 60), 10 ** 6)
        self.assertEqual(times(tuple(range(30)), 30), 29)
        self.assertEqual(times(tuple(range(30)), 29), 28)
        self.assertEqual(times(tuple(range(30)), 31), 29)

    def test_errors(self):
        check_errors(self, times, [(1,), 1], [RULES, numbers(1, 10 ** 60)])


class RuleSum(unittest.TestCase):
    def test_sums_the_numbers(self):
        for rule in [(4, 7), (0,), (0, 3), (5, 0), (1, 2, 3), tuple(range(30))]:
            for count in range(40):
                expected = sum(times(rule, number) for number in range(1, count + 1))
                self.assertEqual(rule_sum(rule, count), expected)

    def test_limits(self):
        self.assertEqual(rule_sum((10 ** 6,), 10 ** 60), 10 ** 66)
        self.assertEqual(rule_sum((0, 3), 10 ** 60), 3 * (10 ** 60 - 1))
        self.assertEqual(rule_sum((3, 0), 10 ** 60), 3)
        self.assertEqual(rule_sum((3,), 0), 0)

    def test_errors(self):
        check_errors(self, rule_sum, [(1,), 0], [RULES, numbers(0, 10 ** 60)])


class Said(unittest.TestCase):
    def test_examples(self):
        self.assertEqual(said((1, 2, 3), "abaab"), "abaaaaabb")
        self.assertEqual(length_said((2,), "ab"), 4)

    def test_letter_by_letter(self):
        for rule in [(1,), (2,), (0,), (0, 2), (3, 0), (2, 1, 0, 1), (1, 2, 3, 4)]:
            for word in words_to(6) + ["abcd", "dcba", "dcbaabcd"]:
                self.assertEqual(said(rule, word), say(rule, word))
                self.assertEqual(length_said(rule, word), len(say(rule, word)))

    def test_the_last_number_goes_on(self):
        rule = tuple(range(30))
        word = "ab" * 50
        self.assertEqual(said(rule, word), say(rule, word))

    def test_limits(self):
        self.assertEqual(said((1,), "ab" * 1000), "ab" * 1000)
        self.assertEqual(said((10,), "a" * 2000), "a" * 20000)
        self.assertEqual(said((20000,), "d"), "d" * 20000)
        self.assertEqual(said((0,), "ab" * 1000), "")
        self.assertEqual(failure_most(said, (11, 10), "a" * 2000), 20000)
        self.assertEqual(failure_most(said, (10 ** 6,), "ab" * 1000), 20000)
        self.assertEqual(length_said((10 ** 6,), "abcd" * 500), 2 * 10 ** 9)
        self.assertEqual(length_said((11, 10), "a" * 2000), 20001)

    def test_errors(self):
        check_errors(self, said, [(1,), "ab"], [RULES, WORDS])
        check_errors(self, length_said, [(1,), "ab"], [RULES, WORDS])

    def test_a_wrong_argument_comes_before_a_long_answer(self):
        with self.assertRaises(BadRule):
            said((10 ** 6 + 1,), "a")
        with self.assertRaises(BadWord):
            said((10 ** 6,), "aaax")


def failure_most(call, *arguments):
    try:
        call(*arguments)
    except TooLong as error:
        return error.most
    return None


class Counts(unittest.TestCase):
    def test_counts(self):
        self.assertEqual(counts("abca"), (2, 1, 1, 0))
        self.assertEqual(counts(""), (0, 0, 0, 0))
        self.assertEqual(counts("d" * 2000), (0, 0, 0, 2000))

    def test_errors(self):
        check_errors(self, counts, ["ab"], [WORDS])


class Walks(unittest.TestCase):
    def test_walk(self):
        self.assertEqual(walk("ba"), ((0, 0, 0, 0), (0, 1, 0, 0), (1, 1, 0, 0)))
        self.assertEqual(walk(""), ((0, 0, 0, 0),))
        for word in words_to(4, "abcd"):
            self.assertEqual(walk(word), tuple(counts(word[:size]) for size in range(len(word) + 1)))

    def test_there_and_back(self):
        for word in words_to(4, "abcd") + ["abcd" * 500]:
            self.assertEqual(from_walk(walk(word)), word)

    def test_walks_of_no_word(self):
        origin = (0, 0, 0, 0)
        self.assertEqual(from_walk((origin, (0, 0, 0, 1))), "d")
        for points in [
            ((1, 0, 0, 0),),
            ((1, 0, 0, 0), (2, 0, 0, 0)),
            ((0, 0, 0, -1), origin),
            (origin, origin),
            (origin, (2, 0, 0, 0)),
            (origin, (1, 1, 0, 0)),
            (origin, (-1, 0, 0, 0)),
            (origin, (1, 1, -1, 0)),
            (origin, (1, 0, 0, 0), origin),
            (origin, (1, 0, 0, 0), (0, 1, 0, 0)),
            (origin, (10 ** 70, 0, 0, 0)),
            (origin,) * 2001,
        ]:
            self.assertIsNone(from_walk(points))

    def test_only_steps_of_one_letter_are_walks(self):
        points = list(product((-1, 0, 1), repeat=4))
        found = [from_walk(((0, 0, 0, 0), point)) for point in points]
        self.assertEqual([word for word in found if word is not None], ["d", "c", "b", "a"])

    def test_errors(self):
        origin = (0, 0, 0, 0)
        check_errors(self, walk, ["ab"], [WORDS])
        wrong = NO_TUPLES + [(), (origin,) * 2002, (0, 0, 0, 0), (origin, (1, 0, 0)), (origin, (1, 0, 0, 0, 0))]
        wrong += [(origin, value) for value in NO_TUPLES + NO_NUMBERS]
        wrong += [((0, 0, value, 0), origin) for value in NO_NUMBERS]
        wrong += [(origin, (1, 0, 0, value)) for value in NO_NUMBERS]
        wrong += [([0, 0, 0, 0],), (origin, [1, 0, 0, 0]), [origin], ((5, 5, 5, 5), (1, 0, 0, True))]
        check_errors(self, from_walk, [(origin,)], [[(value, BadNumber()) for value in wrong]])


if __name__ == "__main__":
    unittest.main()
