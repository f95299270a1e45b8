import unittest
from itertools import product

import plain
from saidcounts.desks import Desk
from saidcounts.errors import BadGaps, BadNumber, BadPlace, BadRule, NothingToUndo, SayError, TooGreat
from wrong import CORES, RULES, TWO_TALL_GAPS, check_errors, failure, numbers, places

GREAT = 10 ** 60
TOO_GREAT = (TooGreat, {"most": GREAT})
METHODS = ("__init__", "say", "grow", "bare", "undo", "size", "letter", "written")
PROPERTIES = ("core", "gaps", "undoable")


def state(desk):
    """All that a desk tells of itself."""
    return (desk.core, desk.gaps, desk.undoable, desk.size(), desk.written())


def steps():
    """Steps of a desk, each with the word that it makes of a word; None where there is no such step."""
    def grown(level, more):
        def step(word):
            row = plain.gaps(word)
            if level > len(row) or row[level - 1] + more < 1:
                return None
            return plain.with_gaps(plain.core(word), row[:level - 1] + (row[level - 1] + more,) + row[level:])
        return step

    found = [(("say", rule), lambda word, rule=rule: plain.say(rule, word)) for rule in [(2,), (1, 2), (0, 1), (2, 0)]]
    found += [(("grow", level, more), grown(level, more)) for level in (1, 2) for more in (-1, 0, 2)]
    return found + [(("bare",), plain.core)]


def do(desk, step):
    return getattr(desk, step[0])(*step[1:])


class Desks(unittest.TestCase):
    def test_examples(self):
        desk = Desk("aba", (2, 1))
        self.assertIsNone(desk.say((2,)))
        self.assertEqual(desk.gaps, (4, 2))
        self.assertIsNone(desk.grow(2, -1))
        self.assertEqual(desk.written(), "aaaabbbba")
        self.assertEqual(desk.size(), 9)
        self.assertIsNone(desk.bare())
        self.assertEqual(desk.core, "aba")
        self.assertIsNone(desk.undo())
        self.assertEqual(desk.letter(4), "b")
        self.assertEqual(desk.undoable, 2)

    def test_methods_stand_in_the_class_itself(self):
        for name in METHODS:
            self.assertTrue(callable(vars(Desk)[name]))
        for name in PROPERTIES:
            self.assertIsInstance(vars(Desk)[name], property)

    def check_state(self, desk, words):
        """The desk is at the last one of the words to which its steps led."""
        word = words[-1]
        self.assertEqual(state(desk), (plain.core(word), plain.gaps(word), len(words) - 1, len(word), word))
        self.assertEqual([desk.letter(place) for place in range(len(word))], list(word))

    def test_all_rows_of_three_steps(self):
        for core, row in [("aba", (2, 1)), ("ab", (2,)), ("", ()), ("abcb", (1, 2)), ("baa", (1, 3))]:
            for told in product(steps(), repeat=3):
                desk = Desk(core, row)
                words = [plain.with_gaps(core, row)]
                for step, change in told:
                    word = change(words[-1])
                    if word is None:
                        self.assertEqual(failure(do, (desk, step)), (BadNumber, {}))
                    else:
                        self.assertIsNone(do(desk, step))
                        words.append(word)
                    self.check_state(desk, words)
                while len(words) > 1:
                    self.assertIsNone(desk.undo())
                    words.pop()
                    self.check_state(desk, words)
                self.assertEqual(failure(desk.undo, ()), (NothingToUndo, {}))
                self.check_state(desk, words)

    def test_undo_and_go_on(self):
        desk = Desk("aba", (2, 1))
        desk.say((2,))
        desk.bare()
        desk.undo()
        self.assertEqual((desk.gaps, desk.undoable), ((4, 2), 1))
        desk.grow(1, 5)
        self.assertEqual((desk.gaps, desk.undoable), ((9, 2), 2))
        desk.undo()
        desk.undo()
        self.assertEqual((desk.gaps, desk.undoable), ((2, 1), 0))
        for _ in range(2):
            self.assertEqual(failure(desk.undo, ()), (NothingToUndo, {}))
        desk.bare()
        self.assertEqual((desk.gaps, desk.undoable), ((1, 1), 1))

    def test_steps_that_change_nothing_are_steps(self):
        desk = Desk("aba", (1, 1))
        desk.bare()
        desk.say((1,))
        desk.grow(2, 0)
        self.assertEqual((desk.gaps, desk.undoable), ((1, 1), 3))

    def test_many_steps(self):
        desk = Desk("aba", (1, 1))
        for _ in range(1000):
            desk.grow(1, 1)
        self.assertEqual((desk.gaps, desk.undoable), ((1001, 1), 1000))
        for _ in range(1000):
            desk.undo()
        self.assertEqual(state(desk), ("aba", (1, 1), 0, 3, "aba"))
        self.assertEqual(failure(desk.undo, ()), (NothingToUndo, {}))

    def test_cores_that_fall(self):
        desk = Desk("aba", (2, 1))
        desk.say((0, 0, 1))
        self.assertEqual(state(desk), ("a", (1,), 1, 1, "a"))
        desk.say((0,))
        self.assertEqual(state(desk), ("", (), 2, 0, ""))
        self.assertEqual(failure(desk.letter, (0,)), (BadPlace, {}))
        self.assertEqual(failure(desk.grow, (1, 1)), (BadNumber, {}))
        desk.bare()
        self.assertEqual(state(desk), ("", (), 3, 0, ""))
        for _ in range(3):
            desk.undo()
        self.assertEqual(state(desk), ("aba", (2, 1), 0, 5, "aabba"))

    def test_two_desks(self):
        one = Desk("aba", (2, 1))
        other = Desk("aba", (2, 1))
        one.say((2,))
        self.assertEqual((other.gaps, other.undoable), ((2, 1), 0))
        self.assertEqual(failure(other.undo, ()), (NothingToUndo, {}))

    def test_words_that_are_written_and_not(self):
        self.assertEqual(Desk("a", (2000,)).written(), "a" * 2000)
        self.assertIsNone(Desk("a", (2001,)).written())
        self.assertEqual(Desk("ab", (1000,)).written(), "a" * 1000 + "b" * 1000)
        self.assertIsNone(Desk("ab", (1001,)).written())
        self.assertIsNone(Desk("abcd" * 500, (1,) * 499 + (2,)).written())
        self.assertEqual(Desk("abcd" * 500, (1,) * 500).written(), "abcd" * 500)


class Limits(unittest.TestCase):
    def test_gaps_that_grow(self):
        desk = Desk("aba", (1, GREAT - 1))
        desk.grow(2, 1)
        self.assertEqual(desk.gaps, (1, GREAT))
        for level, more in ((2, 1), (2, GREAT), (1, GREAT)):
            before = state(desk)
            self.assertEqual(failure(desk.grow, (level, more)), TOO_GREAT)
            self.assertEqual(state(desk), before)
        self.assertEqual(failure(desk.grow, (1, GREAT + 1)), (BadNumber, {}))
        desk.grow(1, GREAT - 1)
        self.assertEqual((desk.gaps, desk.size(), desk.written()), ((GREAT, GREAT), 3 * GREAT, None))
        self.assertEqual([desk.letter(place) for place in (0, GREAT - 1, GREAT, 2 * GREAT, 3 * GREAT - 1)], list("aabaa"))
        self.assertEqual(failure(desk.letter, (3 * GREAT,)), (BadPlace, {}))
        desk.grow(1, 1 - GREAT)
        self.assertEqual(desk.gaps, (1, GREAT))
        self.assertEqual(failure(desk.grow, (2, -GREAT)), (BadNumber, {}))
        self.assertEqual(failure(desk.grow, (1, -1)), (BadNumber, {}))
        self.assertEqual((desk.gaps, desk.undoable), ((1, GREAT), 3))

    def test_gaps_that_shrink(self):
        desk = Desk("aba", (5, 3))
        for more in (-5, -6, -10 ** 70):
            self.assertEqual(failure(desk.grow, (1, more)), (BadNumber, {}))
        desk.grow(1, -4)
        desk.grow(2, -2)
        self.assertEqual((desk.gaps, desk.undoable), ((1, 1), 2))

    def test_words_said_too_great(self):
        desk = Desk("aba", (GREAT // 2, 1))
        desk.say((2,))
        self.assertEqual(desk.gaps, (GREAT, 2))
        before = state(desk)
        self.assertEqual(failure(desk.say, ((2,),)), TOO_GREAT)
        self.assertEqual(failure(desk.say, ((1, 10 ** 6),)), TOO_GREAT)
        self.assertEqual(failure(desk.say, ((2, 1),)), TOO_GREAT)
        self.assertEqual(state(desk), before)
        desk.say((0, 1))
        self.assertEqual((desk.gaps, desk.undoable), ((GREAT - 1, 2), 2))
        desk.undo()
        self.assertEqual(state(desk), before)

    def test_steps_that_raised_an_error_are_not_undone(self):
        desk = Desk("aba", (2, 1))
        desk.grow(1, 1)
        wrong = [
            (desk.say, ((),), (BadRule, {"index": None})), (desk.say, ((1, -1),), (BadRule, {"index": 1})),
            (desk.grow, (3, 1), (BadNumber, {})), (desk.grow, (0, 1), (BadNumber, {})),
            (desk.grow, (1, -3), (BadNumber, {})), (desk.grow, (1, GREAT), TOO_GREAT),
            (desk.letter, (-1,), (BadPlace, {})), (desk.letter, (7,), (BadPlace, {})),
        ]
        for call, arguments, expected in wrong:
            self.assertEqual(failure(call, arguments), expected)
            self.assertEqual(state(desk), ("aba", (3, 1), 1, 7, "aaabbba"))
        desk.undo()
        self.assertEqual(state(desk), ("aba", (2, 1), 0, 5, "aabba"))

    def test_errors(self):
        self.assertEqual(NothingToUndo.__bases__, (SayError,))
        check_errors(self, Desk, ["aba", (12, 3)], [CORES, TWO_TALL_GAPS])
        self.assertEqual(failure(Desk, ("", (1,))), (BadGaps, {}))
        check_errors(self, Desk("aba", (12, 3)).say, [(1, 2)], [RULES])
        check_errors(self, Desk("aba", (12, 3)).letter, [26], [places(26)])
        check_errors(self, Desk("aba", (12, 3)).grow, [1, 0], [numbers(1, 2), numbers(-11, GREAT)])
        check_errors(self, Desk("aba", (12, 3)).grow, [2, 0], [numbers(1, 2), numbers(-2, GREAT)])


if __name__ == "__main__":
    unittest.main()
