import unittest
from functools import lru_cache
from math import factorial

import plain
from saidcounts.errors import BadCore, BadWord, SayError, TooMany
from saidcounts.falls import best_fall, fall_lengths, fall_nim, fall_paths, fall_turns, fall_wins
from wrong import CORES, check_errors, failure

CORES_HERE = plain.cores_to(8) + plain.cores_to(6, "abc") + plain.cores_to(5, "abcd")
CORES_HERE += ["abacabadc", "abbcccddddab", "abcabbcadcc", "abaacabac"]
NINE = "ab" * 9
TEN = "ab" * 10
CALLS = (fall_nim, fall_wins, best_fall, fall_lengths, fall_paths)


@lru_cache(maxsize=None)
def turns(core):
    """The cores that are left when one level is taken out, letter by letter."""
    levels = range(1, len(plain.gaps(core)) + 1)
    return [plain.core(plain.left_without(core, (level,))) for level in levels]


@lru_cache(maxsize=None)
def nim(core):
    found = {nim(left) for left in turns(core)}
    return min(set(range(len(found) + 1)) - found)


@lru_cache(maxsize=None)
def wins(core):
    return any(not wins(left) for left in turns(core))


@lru_cache(maxsize=None)
def lengths(core):
    """All numbers of turns that lead to the empty word, each path by itself."""
    return [many + 1 for left in turns(core) for many in lengths(left)] if core else [0]


class Falls(unittest.TestCase):
    def test_examples(self):
        self.assertEqual(fall_turns("aba"), ("a", "ab"))
        self.assertEqual(fall_nim("a"), 1)
        self.assertIs(fall_wins("aba"), False)
        self.assertEqual(best_fall("a"), 1)
        self.assertEqual(fall_lengths("aba"), (2, 2))
        self.assertEqual(fall_paths("aba"), 2)

    def test_all_turns(self):
        for core in CORES_HERE:
            self.assertEqual(plain.core(core), core)
            self.assertEqual(fall_turns(core), tuple(turns(core)))
            self.assertEqual(fall_nim(core), nim(core), core)
            self.assertIs(fall_wins(core), wins(core), core)
            best = [level for level, left in enumerate(turns(core), start=1) if not wins(left)]
            self.assertEqual(best_fall(core), min(best, default=None), core)
            self.assertEqual(fall_lengths(core), (min(lengths(core)), max(lengths(core))), core)
            self.assertEqual(fall_paths(core), len(lengths(core)), core)

    def test_shorter_ways(self):
        # Not all ways are of one length: levels that come together fall together.
        unlike = [core for core in CORES_HERE if min(lengths(core)) < max(lengths(core))]
        self.assertTrue(unlike)

    def test_the_empty_core(self):
        self.assertEqual(fall_turns(""), ())
        self.assertEqual(fall_nim(""), 0)
        self.assertIs(fall_wins(""), False)
        self.assertIsNone(best_fall(""))
        self.assertEqual(fall_lengths(""), (0, 0))
        self.assertEqual(fall_paths(""), 1)

    def test_nine_levels_and_ten(self):
        self.assertEqual(fall_turns(NINE), ("ab" * 8,) * 9)
        self.assertEqual(fall_nim(NINE), 1)
        self.assertEqual(fall_nim("ab" * 8), 0)
        self.assertIs(fall_wins(NINE), True)
        self.assertEqual(best_fall(NINE), 1)
        self.assertIsNone(best_fall("ab" * 8))
        self.assertEqual(fall_lengths(NINE), (9, 9))
        self.assertEqual(fall_paths(NINE), factorial(9))
        for core in (TEN, "abcd" * 500):
            for call in CALLS:
                self.assertEqual(failure(call, (core,)), (TooMany, {"most": 9}))
        for call in CALLS:
            self.assertEqual(failure(call, (TEN + "bb",)), (BadCore, {}))
            self.assertEqual(failure(call, (TEN + "x",)), (BadWord, {"place": 20}))
        self.assertEqual(fall_turns(TEN), (NINE,) * 10)

    def test_great_cores(self):
        self.assertEqual(fall_turns("ab" * 500), ("ab" * 499,) * 500)
        core = "ab" * 300 + "acac"
        self.assertEqual(fall_turns(core)[298:], tuple(
            plain.core(plain.left_without(core, (level,))) for level in range(299, 303)
        ))

    def test_errors(self):
        self.assertEqual(TooMany.__bases__, (SayError,))
        for call in (fall_turns,) + CALLS:
            check_errors(self, call, ["aba"], [CORES])


if __name__ == "__main__":
    unittest.main()
