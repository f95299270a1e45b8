import unittest
from itertools import groupby, product

import plain
from saidcounts.errors import BadCore, BadGaps, BadLetter, BadNumber, BadPlace, BadRule, SayError, TooGreat, TooLong
from saidcounts.far import (
    lead, longest_run, tall_count, tall_length, tall_letter, tall_piece, tall_place, tall_point, tall_said, tall_unlike,
)
from wrong import (
    CORES, NO_LETTERS, RULES_WITHOUT_ZEROS, TWO_TALL_GAPS, check_errors, failure, numbers, places,
)

MANY = 10 ** 18
GREAT = 10 ** 60
TALL = plain.tall_words(5, 3) + plain.tall_words(3, 2, "abcd") + [("abcabcab", (2, 1, 3), "aabbccabcaaabbb")]


class Places(unittest.TestCase):
    def test_examples(self):
        far = 10 ** 30
        self.assertEqual(tall_length("aba", (far, 1)), 2 * far + 1)
        self.assertEqual(tall_letter("aba", (far, 1), far), "b")
        self.assertEqual(tall_count("aba", (3, 1), "a", 5), 3)
        self.assertEqual(tall_place("aba", (3, 1), "a", 3), 6)
        self.assertEqual(tall_piece("aba", (far, 1), far - 1, 2), "ab")
        self.assertEqual(tall_point("aba", (2, 1), 3), (2, 1, 0, 0))

    def test_written_words(self):
        for told, row, word in TALL:
            self.assertEqual(plain.gaps(word), row)
            self.assertEqual(tall_length(told, row), len(word))
            self.assertEqual([tall_letter(told, row, place) for place in range(len(word))], list(word))
            for place in range(len(word) + 1):
                point = tuple(word[:place].count(letter) for letter in "abcd")
                self.assertEqual(tall_point(told, row, place), point)
                self.assertEqual(tuple(tall_count(told, row, letter, place) for letter in "abcd"), point)

    def test_places_of_letters(self):
        for told, row, word in TALL:
            for letter in "abcd":
                places_of = [place for place, found in enumerate(word) if found == letter]
                found = [tall_place(told, row, letter, number) for number in range(len(places_of) + 2)]
                self.assertEqual(found, places_of + [None, None])

    def test_pieces(self):
        for told, row, word in TALL:
            for start in range(len(word) + 1):
                for size in range(len(word) - start + 1):
                    self.assertEqual(tall_piece(told, row, start, size), word[start:start + size])
                wrong = (told, row, start, len(word) - start + 1)
                self.assertEqual(failure(tall_piece, wrong), (BadNumber, {}))

    def test_the_length_as_a_place(self):
        self.assertEqual(tall_point("aba", (GREAT, 1), 2 * GREAT + 1), (GREAT + 1, GREAT, 0, 0))
        self.assertEqual(tall_count("aba", (GREAT, 1), "a", 2 * GREAT + 1), GREAT + 1)
        self.assertEqual(tall_piece("aba", (GREAT, 1), 2 * GREAT + 1, 0), "")
        for place in (2 * GREAT + 2, 10 ** 90, -1):
            self.assertEqual(failure(tall_point, ("aba", (GREAT, 1), place)), (BadPlace, {}))
            self.assertEqual(failure(tall_count, ("aba", (GREAT, 1), "a", place)), (BadPlace, {}))
            self.assertEqual(failure(tall_piece, ("aba", (GREAT, 1), place, 0)), (BadPlace, {}))
        self.assertEqual(failure(tall_letter, ("aba", (GREAT, 1), 2 * GREAT + 1)), (BadPlace, {}))
        self.assertEqual(tall_letter("aba", (GREAT, 1), 2 * GREAT), "a")

    def test_the_empty_core(self):
        self.assertEqual(tall_length("", ()), 0)
        self.assertEqual(tall_point("", (), 0), (0, 0, 0, 0))
        self.assertEqual(tall_count("", (), "d", 0), 0)
        self.assertIsNone(tall_place("", (), "a", 0))
        self.assertEqual(tall_piece("", (), 0, 0), "")
        self.assertEqual(failure(tall_letter, ("", (), 0)), (BadPlace, {}))
        self.assertEqual(failure(tall_point, ("", (), 1)), (BadPlace, {}))

    def test_great_gaps(self):
        gaps = (GREAT, 1, GREAT)
        word = "abcabcab"
        self.assertEqual(tall_length(word, gaps), 5 * GREAT + 3)
        self.assertEqual(tall_letter(word, gaps, 3 * GREAT), "a")
        self.assertEqual(tall_letter(word, gaps, 3 * GREAT + 3), "a")
        self.assertEqual(tall_letter(word, gaps, 4 * GREAT + 3), "b")
        self.assertEqual(tall_place(word, gaps, "b", GREAT), 3 * GREAT + 1)
        self.assertEqual(tall_place(word, gaps, "b", 2 * GREAT), 5 * GREAT + 2)
        self.assertIsNone(tall_place(word, gaps, "b", 2 * GREAT + 1))
        self.assertIsNone(tall_place(word, gaps, "d", 0))
        self.assertIsNone(tall_place(word, gaps, "a", 10 ** 90))
        self.assertEqual(tall_piece(word, gaps, 3 * GREAT - 2, 8), "ccabcaaa")
        self.assertEqual(tall_piece("a", (GREAT,), GREAT - 2000, 2000), "a" * 2000)
        self.assertEqual(tall_piece("a", (GREAT,), 5, 0), "")

    def test_pieces_of_two_thousand_letters_and_one_more(self):
        self.assertEqual(tall_piece("aba", (1500, 1), 500, 2000), "a" * 1000 + "b" * 1000)
        too_long = (TooLong, {"most": 2000})
        self.assertEqual(failure(tall_piece, ("aba", (1500, 1), 500, 2001)), too_long)
        self.assertEqual(failure(tall_piece, ("a", (GREAT,), 0, GREAT)), too_long)
        self.assertEqual(failure(tall_piece, ("a", (GREAT,), 1, GREAT)), (BadNumber, {}))

    def test_long_cores(self):
        word = "ab" * 1000
        gaps = (GREAT,) * 1000
        self.assertEqual(tall_length(word, gaps), 2000 * GREAT)
        self.assertEqual(tall_letter(word, gaps, 1999 * GREAT), "b")
        self.assertEqual(tall_place(word, gaps, "b", 999 * GREAT + 7), 1999 * GREAT + 7)

    def test_errors(self):
        for error in (BadPlace, BadLetter):
            self.assertEqual(error.__bases__, (SayError,))
        good, wrong = ["aba", (2, 1)], [CORES, TWO_TALL_GAPS]
        check_errors(self, tall_length, good, wrong)
        check_errors(self, tall_letter, good + [4], wrong + [places(4)])
        check_errors(self, tall_point, good + [5], wrong + [places(5)])
        check_errors(self, tall_count, good + ["a", 5], wrong + [NO_LETTERS, places(5)])
        check_errors(self, tall_place, good + ["a", 5], wrong + [NO_LETTERS, numbers(0)])
        check_errors(self, tall_piece, good + [2, 3], wrong + [places(5), numbers(0, 3)])

    def test_gaps_of_one_and_of_sixty_noughts(self):
        self.assertEqual(tall_length("aba", (1, GREAT)), GREAT + 2)
        for call, more in [(tall_length, []), (tall_letter, [0]), (tall_point, [0]), (longest_run, [])]:
            self.assertEqual(failure(call, ["aba", (1, GREAT + 1)] + more), (BadGaps, {}))
            self.assertEqual(failure(call, ["aba", (0, 1)] + more), (BadGaps, {}))
            self.assertEqual(failure(call, ["aba", (1,)] + more), (BadGaps, {}))
            self.assertEqual(failure(call, ["aabb", (1,)] + more), (BadCore, {}))


def unlike(one, other):
    for place, (first, second) in enumerate(zip(one, other)):
        if first != second:
            return place
    return None


class Unlike(unittest.TestCase):
    def test_examples(self):
        self.assertEqual(tall_unlike("a", (2,), "ab", (1,)), 1)

    def test_written_words(self):
        for (told, row, word), (other, more, another) in product(TALL[::2], TALL[::3]):
            self.assertEqual(tall_unlike(told, row, other, more), unlike(word, another), (word, another))

    def test_beginnings(self):
        for told, row, word in TALL:
            for other, more, another in TALL:
                if another.startswith(word):
                    self.assertIsNone(tall_unlike(told, row, other, more))
                    self.assertIsNone(tall_unlike(other, more, told, row))

    def test_great_gaps(self):
        self.assertIsNone(tall_unlike("aba", (GREAT, 1), "aba", (GREAT, 1)))
        self.assertEqual(tall_unlike("aba", (GREAT, 1), "aba", (GREAT - 1, 1)), GREAT - 1)
        self.assertEqual(tall_unlike("aba", (GREAT, 1), "abc", (GREAT,)), 2 * GREAT)
        self.assertIsNone(tall_unlike("aba", (GREAT, 1), "aba", (GREAT, 2)))
        self.assertIsNone(tall_unlike("", (), "aba", (GREAT, 2)))
        self.assertIsNone(tall_unlike("aba", (GREAT, 2), "", ()))
        self.assertIsNone(tall_unlike("", (), "", ()))
        self.assertEqual(tall_unlike("ab", (1,), "ba", (1,)), 0)

    def test_errors(self):
        wrong = [CORES, TWO_TALL_GAPS]
        check_errors(self, tall_unlike, ["aba", (2, 1), "aba", (3, 4)], wrong + wrong)


class Said(unittest.TestCase):
    def test_examples(self):
        self.assertEqual(tall_said((2, 1), "aba", (1, 1), 3), (4, 1))

    def test_written_words(self):
        rules = [(1,), (2,), (2, 1), (1, 2), (1, 1, 3, 1), (3, 1, 1, 2)]
        for told, row, word in TALL:
            for rule in rules:
                for many in range(4):
                    expected = plain.gaps(plain.say_again(rule, word, many))
                    self.assertEqual(tall_said(rule, told, row, many), expected)

    def test_many_sayings(self):
        self.assertEqual(tall_said((1,), "aba", (5, GREAT - 5), MANY), (5, GREAT - 5))
        self.assertEqual(tall_said((2, 1), "aba", (1, 1), MANY), (MANY + 1, 1))
        self.assertEqual(tall_said((1, 1, 2, 1), "aba", (2, 1), MANY), (2, MANY + 1))
        self.assertEqual(tall_said((1, 1, 2), "aba", (2, 1), 100), (2, 2 ** 100))
        self.assertEqual(tall_said((10 ** 6,), "ab", (1,), 10), (GREAT,))
        self.assertEqual(tall_said((7,), "", (), MANY), ())
        self.assertEqual(tall_said((7,), "ab", (GREAT,), 0), (GREAT,))

    def test_a_greatest_mark_above_sixty_noughts(self):
        too_great = (TooGreat, {"most": GREAT})
        self.assertEqual(tall_said((10,), "aba", (9, 1), 59), (9 * 10 ** 59, 10 ** 59))
        self.assertEqual(failure(tall_said, ((10,), "aba", (9, 2), 59)), too_great)
        self.assertEqual(failure(tall_said, ((10,), "ab", (1,), 61)), too_great)
        self.assertEqual(failure(tall_said, ((1,), "aba", (GREAT, 1), MANY)), too_great)
        self.assertEqual(failure(tall_said, ((1,), "aba", (GREAT, 1), 0)), too_great)
        self.assertEqual(failure(tall_said, ((2, 1), "ab", (GREAT,), 1)), too_great)
        self.assertEqual(tall_said((2, 1), "ab", (GREAT - MANY,), MANY), (GREAT,))
        self.assertEqual(failure(tall_said, ((2, 1), "ab", (GREAT - MANY + 1,), MANY)), too_great)
        self.assertEqual(failure(tall_said, ((1, 2), "ab" * 1000, (GREAT,) * 1000, MANY)), too_great)

    def test_errors(self):
        good, wrong = [(1, 2), "aba", (2, 1), 3], [RULES_WITHOUT_ZEROS, CORES, TWO_TALL_GAPS, numbers(0, MANY)]
        check_errors(self, tall_said, good, wrong)
        self.assertEqual(failure(tall_said, ((2,), "aba", (GREAT, 1), MANY + 1)), (BadNumber, {}))
        self.assertEqual(failure(tall_said, ((0, "x"), "aba", (2, 1), 1)), (BadRule, {"index": 1}))


class RunsAndLeads(unittest.TestCase):
    def test_examples(self):
        self.assertEqual(longest_run("aba", (2, 1)), ("a", 2, 0))
        self.assertEqual(lead("aba", (2, 1), "a", "b"), 2)

    def test_longest_runs(self):
        for told, row, word in TALL:
            found = []
            place = 0
            for letter, group in groupby(word):
                found.append((letter, len(list(group)), place))
                place += found[-1][1]
            expected = max(found, key=lambda run: run[1], default=None)
            self.assertEqual(longest_run(told, row), expected)

    def test_leads(self):
        for told, row, word in TALL:
            for one, other in product("abcd", repeat=2):
                beginnings = [word[:place] for place in range(len(word) + 1)]
                expected = max(start.count(one) - start.count(other) for start in beginnings)
                self.assertEqual(lead(told, row, one, other), expected)

    def test_great_gaps(self):
        self.assertEqual(longest_run("aba", (1, GREAT)), ("a", GREAT, 2))
        self.assertEqual(longest_run("aba", (GREAT, GREAT)), ("a", GREAT, 0))
        self.assertIsNone(longest_run("", ()))
        self.assertEqual(lead("aba", (GREAT, 1), "a", "b"), GREAT)
        self.assertEqual(lead("aba", (1, GREAT), "a", "b"), GREAT)
        self.assertEqual(lead("aba", (GREAT, 1), "b", "a"), 0)
        self.assertEqual(lead("aba", (GREAT, 1), "a", "a"), 0)
        self.assertEqual(lead("", (), "a", "b"), 0)
        self.assertEqual(lead("aba", (GREAT, GREAT), "a", "d"), 2 * GREAT)

    def test_errors(self):
        good, wrong = ["aba", (2, 1)], [CORES, TWO_TALL_GAPS]
        check_errors(self, longest_run, good, wrong)
        check_errors(self, lead, good + ["a", "b"], wrong + [NO_LETTERS, NO_LETTERS])


if __name__ == "__main__":
    unittest.main()
