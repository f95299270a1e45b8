"""Wrong values for each kind of argument, with the error that each is to raise, and the check that it does."""

from saidcounts.errors import (
    BadCore, BadGaps, BadLetter, BadLetters, BadLevels, BadNumber, BadPairs, BadPattern, BadPlace, BadRule, BadRules,
    BadWord, NotText,
)

NO_TUPLES = [None, True, False, 0, 1, -1, 10 ** 70, "", "a", "ab", [], [1], ["a"], ["a", "b"], {}, {"a": 1}, {1: 1}]
NO_NUMBERS = [None, True, False, "", "1", "a", (), (1,), ("a",), [], [1], {}, {1: 1}]

WORDS = [(value, BadWord(None)) for value in NO_NUMBERS if not isinstance(value, str)]
WORDS += [(value, BadWord(None)) for value in [0, 1, "a" * 2001, "x" * 2001]]
WORDS += [("e", BadWord(0)), ("A", BadWord(0)), ("ab c", BadWord(2)), ("abcde\n", BadWord(4)), ("ab\u00e4", BadWord(2))]
WORDS += [("a" * 1999 + "1", BadWord(1999)), ("1", BadWord(0)), ("aexe", BadWord(1))]

RULES = [(value, BadRule(None)) for value in NO_TUPLES + [(), (1,) * 31, ("x",) * 31]]
RULES += [((value, "x"), BadRule(0)) for value in NO_NUMBERS + [-1, 10 ** 6 + 1, 10 ** 60]]
RULES += [((1, value), BadRule(1)) for value in NO_NUMBERS + [-1, 10 ** 6 + 1, 10 ** 60]]
RULES += [((1,) * 29 + (-1,), BadRule(29))]

RULES_WITHOUT_ZEROS = RULES + [((0,), BadRule(0)), ((1, 2, 0, 3, 0), BadRule(2)), ((1,) * 29 + (0,), BadRule(29))]
RULES_WITHOUT_ZEROS += [((0, "x"), BadRule(1)), ((0, 1, -1), BadRule(2))]

FOUR_RULES = [(value, BadRules()) for value in NO_TUPLES + [(), ((1,),) * 3, ((1,),) * 5, (None,) * 5, (1, 2, 3)]]
FOUR_RULES += [(((1,), value, ("x",), None), error) for value, error in RULES]
FOUR_RULES += [((value, (1,), (1,), ("x",)), error) for value, error in RULES]
FOUR_RULES += [(((1,), (1,), (1,), value), error) for value, error in RULES]

CORES = WORDS + [("aa", BadCore()), ("aabba", BadCore()), ("abbb", BadCore())]

TWO_GAPS = [(value, BadGaps()) for value in NO_TUPLES + [(), (1,), (1, 1, 1)]]
TWO_GAPS += [((value, 1), BadGaps()) for value in NO_NUMBERS + [0, -1]]
TWO_GAPS += [((1, value), BadGaps()) for value in NO_NUMBERS + [0, -1]]


TWO_TALL_GAPS = TWO_GAPS + [(row, BadGaps()) for row in [(10 ** 60 + 1, 1), (1, 10 ** 60 + 1), (1, 10 ** 90)]]

NO_LETTERS = [None, True, 0, 1, 97, "", "e", "A", " ", "ab", "aa", "abcd", "bc", ("a",), ["a"], {"a": 1}, (), [], {}]
NO_LETTERS = [(value, BadLetter()) for value in NO_LETTERS]

PATTERNS = [(value, BadPattern()) for value in NO_NUMBERS if not isinstance(value, str)]
PATTERNS += [(value, BadPattern()) for value in [0, 1, "", "abcdabc", "e", "A", "abe", "ab ", "1", "ab\u00e4", "a\n"]]

LEVELS_OF_TWO = [(value, BadLevels()) for value in NO_TUPLES]
LEVELS_OF_TWO += [((1, value), BadLevels()) for value in NO_NUMBERS + [0, 1, -1, 3, 10 ** 70]]
LEVELS_OF_TWO += [((value,), BadLevels()) for value in NO_NUMBERS + [0, -1, 3, 10 ** 70]]
LEVELS_OF_TWO += [(row, BadLevels()) for row in [(2, 1), (1, 2, 3), (1, 1, 2), (0, 1, 2), (2, 2)]]

COUNTS_TOLD = [(value, BadNumber()) for value in NO_TUPLES + [(), (1,) * 5, (None,) * 5]]
COUNTS_TOLD += [((value,), BadNumber()) for value in NO_NUMBERS + [-1, 9, 10 ** 70]]
COUNTS_TOLD += [((1, 0, 8, value), BadNumber()) for value in NO_NUMBERS + [-1, 9, 10 ** 70]]

MARKS_TOLD = [(value, BadNumber()) for value in NO_TUPLES]
MARKS_TOLD += [((value,), BadNumber()) for value in NO_NUMBERS + [-1, 0, 9, 10 ** 70]]
MARKS_TOLD += [((1, value), BadNumber()) for value in NO_NUMBERS + [-1, 0, 1, 9, 10 ** 70]]
MARKS_TOLD += [(row, BadNumber()) for row in [(2, 1), (1, 1, 2), (1, 3, 2), (0, 1), tuple(range(1, 10)), (2, 2)]]

SOME_LETTERS = [(value, BadLetters()) for value in NO_NUMBERS if not isinstance(value, str)]
SOME_LETTERS += [(value, BadLetters()) for value in [0, 1, "e", "A", " ", "abce", "ab\u00e4", "a\n", "1", "abcd "]]
SOME_LETTERS += [(value, BadLetters()) for value in [("a", "b", "c", "d"), ["a", "b", "c", "d"], b"abcd"]]

ALL_LETTERS = SOME_LETTERS + [(value, BadLetters()) for value in ["", "a", "abc", "abcda", "abca", "abcc", "aabbccdd"]]

TEXTS = [(value, NotText()) for value in NO_NUMBERS if not isinstance(value, str)]
TEXTS += [(value, NotText()) for value in [0, 1, b"aba:1,2", ["a", ":", "1"], ("a", ":", "1"), "a" * 4001, "?" * 4001]]


def places(most):
    """Wrong values for a place up to the most one."""
    return [(value, BadPlace()) for value in NO_NUMBERS + [-1, -10 ** 70, most + 1, most + 10 ** 70]]


def numbers(least, most=None):
    """Wrong values for an integer from the least to the most one."""
    wrong = [(value, BadNumber()) for value in NO_NUMBERS + [least - 1, least - 10 ** 70]]
    if most is not None:
        wrong += [(value, BadNumber()) for value in [most + 1, most * 10 ** 10 + 10 ** 70]]
    return wrong


ROWS = [(value, BadNumber()) for value in NO_TUPLES]
ROWS += [((1, value), BadNumber()) for value in NO_NUMBERS + [0, -1]]
ROWS += [((value,), BadNumber()) for value in NO_NUMBERS + [0, -1]]


def pairs(most):
    """Wrong values for a tuple of 1 to so many pairs of words."""
    good = ("a", "aa")
    wrong = [(value, BadPairs(None)) for value in NO_TUPLES + [(), (good,) * (most + 1), (None,) * (most + 1)]]
    wrong += [((good, value, ("x", "x")), BadPairs(1)) for value in NO_TUPLES + [(), ("a",), ("a", "a", "a")]]
    wrong += [((value, good), BadPairs(0)) for value in NO_TUPLES]
    wrong += [((good, (value, "xx"), None), error) for value, error in WORDS]
    return wrong + [((good, ("ab", value), None), error) for value, error in WORDS]


def word_tuples(most):
    """Wrong values for a tuple of 1 to so many words."""
    wrong = [(value, BadNumber()) for value in NO_TUPLES + [(), ("a",) * (most + 1), (None,) * (most + 1)]]
    return wrong + [(("a", value, "xx"), error) for value, error in WORDS]


def failure(call, arguments):
    """The class and the fields of the error that a call raises."""
    try:
        call(*arguments)
    except ValueError as error:
        return type(error), vars(error)
    return None


def check_errors(case, call, good, wrong):
    """Each wrong value raises its error, whatever is wrong with the arguments to its right."""
    call(*good)
    for place, told in enumerate(wrong):
        for value, error in told:
            arguments = list(good)
            arguments[place] = value
            expected = (type(error), vars(error))
            with case.subTest(call=call.__name__, arguments=arguments):
                case.assertEqual(failure(call, arguments), expected)
            for right in range(place + 1, len(good)):
                for other, _ in wrong[right][:3] + wrong[right][-3:]:
                    arguments = list(good)
                    arguments[place] = value
                    arguments[right] = other
                    with case.subTest(call=call.__name__, arguments=arguments):
                        case.assertEqual(failure(call, arguments), expected)
