import unittest
from itertools import permutations, product

import plain
from saidcounts.errors import BadLetters, SayError
from saidcounts.kinds import (
    cores_on_the_way, count_forms, first_form, is_even_word, joined, only, renamed, shadow_marks, turned, turned_marks,
)
from wrong import ALL_LETTERS, SOME_LETTERS, WORDS, check_errors

SMALL = plain.words_to(7) + plain.words_to(4, "abcd") + ["abacabad", "dcbaabcd", "aabbccabc", "ddacca"]
ORDERS = ["".join(row) for row in permutations("abcd")]


def all_renamed(word):
    """The word renamed in all orders of the letters, sign by sign."""
    return [word.translate(str.maketrans("abcd", letters)) for letters in ORDERS]


class Letters(unittest.TestCase):
    def test_examples(self):
        self.assertEqual(renamed("abca", "dcba"), "dcbd")
        self.assertEqual(first_form("cabc"), "abca")
        self.assertEqual(count_forms("aab"), 12)
        self.assertEqual(only("abcab", "ac"), "aca")
        self.assertEqual(shadow_marks("aab")[1], ("ac", "a"))

    def test_renamed_in_every_order(self):
        self.assertEqual([renamed("abcd", letters) for letters in ORDERS], ORDERS)
        for word in SMALL:
            self.assertEqual([renamed(word, letters) for letters in ORDERS], all_renamed(word))

    def test_forms(self):
        for word in SMALL:
            found = sorted(set(all_renamed(word)))
            self.assertEqual(count_forms(word), len(found))
            self.assertEqual(first_form(word), found[0])

    def test_kinds_of_letters(self):
        self.assertEqual([count_forms(word) for word in ("", "d", "db", "bdc", "dcba")], [1, 4, 12, 24, 24])
        self.assertEqual([first_form(word) for word in ("", "d", "db", "bdc", "dcba")], ["", "a", "ab", "abc", "abcd"])
        self.assertEqual(first_form("dcba" * 500), "abcd" * 500)
        self.assertEqual(renamed("abcd" * 500, "badc"), "badc" * 500)

    def test_only(self):
        strings = ["", "a", "d", "ab", "ba", "aab", "bbbb", "abcd", "dcbaabcd", "ac", "cdc", "d" * 5000]
        for word in SMALL:
            for letters in strings:
                self.assertEqual(only(word, letters), "".join(letter for letter in word if letter in set(letters)))
        self.assertEqual(only("abcd" * 500, "ca"), "ac" * 500)

    def test_shadow_marks(self):
        for word in SMALL:
            expected = []
            for pair in ("ab", "ac", "ad", "bc", "bd", "cd"):
                left = word
                for letter in set("abcd") - set(pair):
                    left = left.replace(letter, "")
                expected.append((pair, plain.core(left)))
            self.assertEqual(shadow_marks(word), tuple(expected))
        self.assertEqual(shadow_marks(""), tuple((pair, "") for pair in ("ab", "ac", "ad", "bc", "bd", "cd")))
        self.assertEqual(shadow_marks("aacbaa")[1], ("ac", "aaca"))

    def test_errors(self):
        self.assertEqual(BadLetters.__bases__, (SayError,))
        check_errors(self, renamed, ["abca", "dcba"], [WORDS, ALL_LETTERS])
        check_errors(self, only, ["abca", "ca"], [WORDS, SOME_LETTERS])
        for call in (first_form, count_forms, shadow_marks):
            check_errors(self, call, ["cabc"], [WORDS])


class Turns(unittest.TestCase):
    def test_examples(self):
        self.assertEqual(turned("aab"), "baa")
        self.assertEqual(turned_marks("aab"), (0, 1, 2))
        self.assertIs(is_even_word("aba"), True)
        self.assertEqual(joined("aab", "b"), ("ab", (2,)))
        self.assertEqual(cores_on_the_way("aab"), ["", "a", "aab"])

    def test_turned(self):
        for word in SMALL:
            back = "".join(reversed(word))
            self.assertEqual(turned(word), back)
            self.assertEqual(turned_marks(word), tuple(plain.marks(back)))
            self.assertIs(is_even_word(word), plain.core(back) == plain.core(word))
        self.assertEqual(turned("abcd" * 500), "dcba" * 500)
        self.assertEqual(turned_marks("abcd" * 500), tuple(range(501)))

    def test_even_words(self):
        for word in ("", "a", "aa", "abba", "aabaa"):
            self.assertIs(is_even_word(word), True)
        for word in ("ab", "aab", "aaba", "abaa", "abc", "abab" * 500):
            self.assertIs(is_even_word(word), False)

    def test_joined(self):
        words = plain.words_to(4) + ["abc", "dca", "ccab"]
        for one, other in product(words, repeat=2):
            whole = one + other
            self.assertEqual(joined(one, other), (plain.core(whole), plain.gaps(whole)))

    def test_great_words_joined(self):
        self.assertEqual(joined("a" * 2000, "a" * 2000), ("a", (4000,)))
        self.assertEqual(joined("ab" * 1000, "ab" * 1000), ("ab" * 2000, (1,) * 2000))
        self.assertEqual(joined("a" * 2000, "b" * 2000), ("ab", (2000,)))
        self.assertEqual(joined("", ""), ("", ()))

    def test_cores_on_the_way(self):
        for word in SMALL:
            expected = []
            for end in range(len(word) + 1):
                core = plain.core(word[:end])
                if not expected or core != expected[-1]:
                    expected.append(core)
            self.assertEqual(cores_on_the_way(word), expected)

    def test_cores_that_grow_and_shrink(self):
        self.assertEqual(cores_on_the_way("abb"), ["", "a", "ab", "abb"])
        self.assertEqual(cores_on_the_way("aabb"), ["", "a", "aab", "ab"])
        self.assertEqual(cores_on_the_way("aaabbbb"), ["", "a", "aab", "ab", "abb"])
        self.assertEqual(cores_on_the_way(""), [""])

    def test_great_words_on_the_way(self):
        self.assertEqual(cores_on_the_way("a" * 2000), ["", "a"])
        self.assertEqual(cores_on_the_way("ab" * 1000)[::500], [("ab" * 1000)[:end] for end in range(0, 2001, 500)])

    def test_lists_are_new(self):
        cores_on_the_way("aab").clear()
        self.assertEqual(len(cores_on_the_way("aab")), 3)

    def test_errors(self):
        for call in (turned, turned_marks, is_even_word, cores_on_the_way):
            check_errors(self, call, ["aab"], [WORDS])
        check_errors(self, joined, ["aab", "b"], [WORDS, WORDS])


if __name__ == "__main__":
    unittest.main()
