"""What holds for the whole interface: where its names stand, which errors they raise, and that nothing is modified."""

import unittest
from copy import deepcopy
from importlib import import_module
from inspect import signature

from saidcounts.desks import Desk
from saidcounts.errors import SayError

far = 10 ** 30

# For each function of the interface arguments with which it answers.
CALLS = {
    "words": {
        "said": ((1, 2, 3), "abaab"),
        "length_said": ((2,), "ab"),
        "times": ((4, 7), 9),
        "rule_sum": ((4, 7), 3),
        "counts": ("abca",),
        "walk": ("ba",),
        "from_walk": (((0, 0, 0, 0), (0, 0, 0, 1)),),
    },
    "marks": {
        "marks": ("aabba",),
        "core": ("aabba",),
        "gaps": ("aabba",),
        "from_gaps": ("aba", (2, 1)),
        "is_core": ("aabb",),
        "runs": ("aab",),
        "level_of": ("aabba", 4),
        "level_words": ("aabba",),
        "widest": ("aabba",),
    },
    "order": {
        "is_saying": ("aba", "aabba"),
        "unsayings": ("aabba",),
        "count_unsayings": ("aaa",),
        "unsaying_at": ("aaa", 1),
        "rank_of_unsaying": ("aaa", "aa"),
        "join": ("aabba", "abaa"),
        "meet": ("aabba", "abaa"),
        "between": ("a", "aaa"),
        "steps": ("a", "aaa"),
        "chains": ("aba", "aabbaa"),
        "signs": ("a", "aa"),
        "just_above": ("aba",),
        "join_all": (("a", "aaa", "aa"),),
        "meet_all": (("aa", "aaa"),),
        "just_below": ("aabba",),
        "same_core": ("ab", "aabb"),
    },
    "metrics": {
        "distance": ("a", "aaa"),
        "count_ways": ("aba", "aabbaa"),
        "way_to": ("a", "aa"),
        "middle": ("a", "aa", "aaaa"),
        "is_between": ("a", "aa", "aaa"),
        "within": ("aa", 1),
        "nearest_core": ("aabba",),
        "word_between": ("a", "aaa", 1),
    },
    "rules": {
        "count_rules": ("aa", "aaaa"),
        "least_rule": ("aa", "aaaa"),
        "greatest_rule": ("aa", "aaaa"),
        "rule_at": ("aa", "aaaa", 1),
        "rank_of_rule": ("aa", "aaaa", (3, 1)),
        "bar": ("ab", "ba"),
        "says": ((0, 1), "aab", "a"),
        "common_rule": ((("ab", "aabb"), ("aa", "aaaaa")),),
        "count_common": ((("aa", "aaaa"),),),
    },
    "quotients": {
        "behind": ((2,), (4,), 2),
        "can_behind": ((1,), (3,), 4),
        "count_behind": ((2,), (2,), 1),
        "ahead": ((2,), (4,), 2),
        "count_ahead_of": ((1, 0), (1, 0), 1),
    },
    "few": {
        "fewest_sayings": ("a", "aaaaa", 2),
        "sayings_to": ("a", "aaaaa", 2),
        "stops_on_the_way": ("a", "aaa", 2),
        "count_small": ("aa", "aaaa", 2),
        "all_rules": ("aa", "aaa"),
    },
    "each": {
        "said_each": (((2,), (1,), (0, 1), (1,)), "abcac"),
        "can_each": ("ab", "aabbb"),
        "count_each": ("aab", "aaabb"),
        "rows_each": ("aab", "aaabb"),
        "join_each": ("aab", "abb"),
        "meet_each": ("aab", "abb"),
        "bare_word": ("aabba",),
        "marks_each": ("aabba",),
    },
    "sums": {
        "plain": ((2, 1, 1),),
        "same_rule": ((1,), (1, 1)),
        "then": ((2,), (0, 1)),
        "again": ((2,), 3),
        "mark_after": ((2,), 3, 4),
        "fixed_marks": ((0, 2, 1), 4),
        "way": ((0, 1), 3),
        "stays": ((0, 2), "aabb"),
        "settles": ((0, 1), "aab"),
        "final": ((3, 0), "ab"),
        "say_often": ((2, 1), "ab", 3),
        "length_after": ((2,), "ab", 5),
        "half_rule": ((4,), 2),
    },
    "pairs": {
        "scattered": ("abab", "ab"),
        "scattered_said": ((2,), "ab", "ab"),
        "scattered_tall": ("a", (4,), "aa"),
        "pairs_ahead": ("aab", "a", "b"),
        "disorder": ("bab",),
        "disorder_said": ((3,), "ba"),
        "disorder_tall": ("ba", (5,)),
    },
    "speech": {
        "own_numbers": ("aab",),
        "speak": ("aab",),
        "speak_often": ("aa", 2),
        "speaks_itself": ("abcc",),
        "first_long": ("abcc",),
        "speech_gaps": ("aab",),
        "speech_grows": ("aab",),
    },
    "far": {
        "tall_letter": ("aba", (far, 1), far),
        "tall_count": ("aba", (3, 1), "a", 5),
        "tall_place": ("aba", (3, 1), "a", 3),
        "tall_piece": ("aba", (far, 1), far - 1, 2),
        "tall_point": ("aba", (2, 1), 3),
        "tall_unlike": ("a", (2,), "ab", (1,)),
        "tall_said": ((2, 1), "aba", (1, 1), 3),
        "longest_run": ("aba", (2, 1)),
        "lead": ("aba", (2, 1), "a", "b"),
        "tall_length": ("aba", (far, 1)),
    },
    "talls": {
        "tall_of": ("aabba",),
        "tall_any": ((0, 1), "aba", (1, 1)),
        "tall_join": ("aba", (5, 1), (1, 2)),
        "tall_meet": ("aba", (5, 1), (1, 2)),
        "tall_grows": ("a", (3,), (9,)),
        "tall_distance": ("a", (3,), (9,)),
        "tall_unsayings": ("aba", (5, 4)),
        "tall_unsaying": ("aba", (5, 4), 6),
        "tall_rank": ("aba", (5, 4), (2, 3)),
        "tall_nim": ("aba", (5, 4)),
        "tall_turn": ("aba", (5, 4)),
        "scaled": ("aba", (1, 2), 3),
        "unit_of": ("aba", (4, 6)),
    },
    "levels": {
        "taken_out": ("aabba", (1,)),
        "falls": ((0, 1), "aba"),
        "cores_below": ("aba",),
        "ways_below": ("aba", "a"),
        "least_levels": ("aba", "ab"),
        "any_rule": ("ab", ""),
        "count_any": ("aa", "aa"),
        "is_said": ((2,), "aab"),
        "undo": ((0, 1), "a"),
        "count_undo": ((0, 1), "a", 2),
        "undoings": ((0, 1), "a", 2),
    },
    "cores": {
        "cores_of_length": (2, 2),
        "count_cores": ((2, 1),),
        "coins": ("aba",),
        "count_of_length": ("aba", 6),
        "counts_to": ("ab", 5),
        "gaps_of_length": ("aba", 6),
        "greatest_missing": ("aba",),
    },
    "kinds": {
        "renamed": ("abca", "dcba"),
        "first_form": ("cabc",),
        "count_forms": ("aab",),
        "only": ("abcab", "ac"),
        "turned": ("aab",),
        "turned_marks": ("aab",),
        "is_even_word": ("aba",),
        "joined": ("aab", "b"),
        "cores_on_the_way": ("aab",),
        "shadow_marks": ("aab",),
    },
    "spreads": {
        "count_words": ((2, 1),),
        "count_within": ((2, 2), (2,)),
        "count_exact": ((2, 1), (1, 2)),
        "spread": (3, 2),
        "rank_in_core": ("aabba",),
        "word_in_core": ("aba", 5, 1),
    },
    "reach": {
        "fewest_letters": ((5, 0), 10, 2),
        "lengths_said": ((2,), 1, 7),
        "least_times": ((2,), "a", 1024),
        "by_core": (("ab", "ba", "aabb"),),
    },
    "games": {
        "moves": ("aaa",),
        "nim": ("aaa",),
        "nim_sum": (("aa", "aa"),),
        "wins": (("aab", "aa"),),
        "good_turns": (("aaa", "aa"),),
        "wins_last": (("aa",),),
        "nim_up": ("a", 3),
        "moves_up": ("a", 3),
        "nim_few": ("aaaa", 2),
        "wins_any": ("aabb",),
    },
    "falls": {
        "fall_turns": ("aba",),
        "fall_nim": ("a",),
        "fall_wins": ("aba",),
        "best_fall": ("a",),
        "fall_lengths": ("aba",),
        "fall_paths": ("aba",),
    },
    "texts": {
        "write_tall": ("aba", (12, 3)),
        "read_tall": ("aba:12,3",),
    },
}

# For each error its fields.
FIELDS = {
    "BadWord": ("place",), "BadRule": ("index",), "BadCore": (), "BadGaps": (), "BadNumber": (), "TooLong": ("most",),
    "BadPairs": ("index",), "BadRules": (), "TooGreat": ("most",), "BadPattern": (), "BadLetter": (), "BadPlace": (),
    "BadLevels": (), "TooMany": ("most",), "BadLetters": (), "NotText": (), "InvalidText": ("place",),
    "NothingToUndo": (),
}

NUMBERS = [0, 1, 2, -1, 7, 10 ** 70, -10 ** 70]
STRINGS = ["", "a", "ab", "aabba", "abcd", "e", "abe", "A", "a:1", ":", "1", "ab" * 1001, "\u00e4", "\ud800", "a\x00"]
TUPLES = [(), (1,), (0,), (1, 2), (0, 0, 1), (True,), (1, False), ("a",), ("a", "ab"), (None,), ((),), ((1,),), (("a",),)]
TUPLES += [(("a", "aa"),), (("a", "aa"), None), ((1,),) * 4, ((1,), (0,), (True,), (1,)), ((0, 0, 0, 0),), (1,) * 40]
TUPLES += [(-1,), (10 ** 70,), ("a",) * 9, (["a"],), ({},), (1, (2,)), ("a", 1)]
OTHERS = [None, True, False, [], ["a"], [1], [[1]], {}, {"a": 1}, {1: "a"}, {"word": "a"}]
VALUES = NUMBERS + STRINGS + TUPLES + OTHERS


def functions():
    """All functions of the interface, each with good arguments."""
    return [
        (getattr(import_module("saidcounts." + module), name), arguments)
        for module, calls in CALLS.items() for name, arguments in calls.items()
    ]


def with_booleans(value):
    """All values in which one integer of a value, however deep it stands, is a boolean instead."""
    if isinstance(value, int):
        return [True, False]
    if not isinstance(value, tuple):
        return []
    return [
        value[:index] + (other,) + value[index + 1:]
        for index, item in enumerate(value) for other in with_booleans(item)
    ]


def outcome(call, arguments):
    """The answer of a call, or the class and the fields of its error, which is one of the package."""
    try:
        return call(*arguments)
    except SayError as error:
        return (type(error), vars(error))


class Whole(unittest.TestCase):
    def test_names_stand_in_their_files(self):
        for module, calls in CALLS.items():
            for name, arguments in calls.items():
                call = getattr(import_module("saidcounts." + module), name)
                self.assertEqual((call.__module__, call.__name__), ("saidcounts." + module, name))
                self.assertEqual(len(signature(call).parameters), len(arguments), name)

    def test_errors_are_direct_subclasses(self):
        module = import_module("saidcounts.errors")
        found = {name: value for name, value in vars(module).items() if isinstance(value, type)}
        self.assertEqual(sorted(found), sorted(["SayError", *FIELDS]))
        self.assertEqual(SayError.__bases__, (ValueError,))
        for name, fields in FIELDS.items():
            self.assertEqual(found[name].__bases__, (SayError,))
            self.assertEqual(vars(found[name](*[5 for field in fields])), {field: 5 for field in fields})

    def test_lists_are_new(self):
        for call, arguments in functions():
            found = call(*arguments)
            self.assertEqual(call(*arguments), found)
            if isinstance(found, list):
                copied = deepcopy(found)
                found.append(None)
                self.assertEqual(call(*arguments), copied)

    def test_any_value_is_answered_or_raises_an_error_of_the_package(self):
        for call, arguments in functions():
            for place in range(len(arguments)):
                for value in VALUES:
                    self.check_unchanged(call, arguments[:place] + (value,) + arguments[place + 1:])

    def check_unchanged(self, call, arguments):
        """Equal arguments have equal outcomes, and the call does not modify them."""
        copied = deepcopy(arguments)
        with self.subTest(call=call.__name__, arguments=arguments):
            found = outcome(call, arguments)
            self.assertEqual(repr(arguments), repr(copied))
            self.assertEqual(outcome(call, copied), found)

    def test_true_and_false_are_not_integers(self):
        for call, arguments in functions():
            for other in with_booleans(arguments):
                with self.subTest(call=call.__name__, arguments=other):
                    with self.assertRaises(SayError):
                        call(*other)

    def test_desks_with_any_value(self):
        for value in VALUES:
            self.check_unchanged(lambda word, told: Desk(word, told).gaps, (value, (1, 2)))
            self.check_unchanged(lambda word, told: Desk(word, told).gaps, ("aba", value))
            self.check_unchanged(lambda rule: Desk("aba", (1, 2)).say(rule), (value,))
            self.check_unchanged(lambda place: Desk("aba", (1, 2)).letter(place), (value,))
            self.check_unchanged(lambda level, more: Desk("aba", (1, 2)).grow(level, more), (value, 1))
            self.check_unchanged(lambda level, more: Desk("aba", (1, 2)).grow(level, more), (1, value))


if __name__ == "__main__":
    unittest.main()
