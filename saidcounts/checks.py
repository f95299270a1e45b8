"""What is asked of arguments before anything is done with them."""

from saidcounts.errors import BadLetter, BadNumber, BadPlace, BadRule, BadRules, BadWord, TooGreat, TooLong

LETTERS = "abcd"
MOST_LETTERS = 2000
MOST_LETTERS_SAID = 20000
MOST_RULE_NUMBERS = 30
GREATEST_RULE_NUMBER = 10 ** 6
GREATEST_COUNT = 10 ** 60


def is_number(value):
    """Whether a value is an integer; True and False are none here."""
    return isinstance(value, int) and not isinstance(value, bool)


def is_number_from(value, least):
    """Whether a value is an integer that is not below the least one."""
    return is_number(value) and value >= least


def is_tuple_of(value, fewest, most):
    """Whether a value is a tuple of so many items, whatever they are."""
    return isinstance(value, tuple) and fewest <= len(value) <= most


def are_numbers_from(value, least):
    """Whether a value is a tuple of integers that are not below the least one."""
    return isinstance(value, tuple) and all([is_number_from(item, least) for item in value])


def are_numbers_between(value, least, most):
    """Whether a value is a tuple of integers from the least to the most one."""
    return are_numbers_from(value, least) and all([item <= most for item in value])


def check_word(word):
    """Raise BadWord for a value that is no word."""
    if not isinstance(word, str) or len(word) > MOST_LETTERS:
        raise BadWord(None)
    for place, sign in enumerate(word):
        if sign not in LETTERS:
            raise BadWord(place)


def check_words(words, most):
    """Raise BadNumber for a value that is no tuple of 1 to so many items, then BadWord for one that is no word."""
    if not is_tuple_of(words, 1, most):
        raise BadNumber()
    for word in words:
        check_word(word)


def check_rule(rule):
    """Raise BadRule for a value that is no rule."""
    if not is_tuple_of(rule, 1, MOST_RULE_NUMBERS):
        raise BadRule(None)
    for index, number in enumerate(rule):
        if not is_number_from(number, 0) or number > GREATEST_RULE_NUMBER:
            raise BadRule(index)


def check_rule_without_zeros(rule):
    """Raise BadRule for a value that is no rule, then for a rule with a number 0."""
    check_rule(rule)
    if 0 in rule:
        raise BadRule(rule.index(0))


def check_rules(rules):
    """Raise BadRules for a value that is no tuple of an item for each letter, then BadRule for one that is no rule."""
    if not is_tuple_of(rules, len(LETTERS), len(LETTERS)):
        raise BadRules()
    for rule in rules:
        check_rule(rule)


def check_letter(letter):
    """Raise BadLetter for a value that is no letter."""
    if not isinstance(letter, str) or len(letter) != 1 or letter not in LETTERS:
        raise BadLetter()


def check_place(place, most):
    """Raise BadPlace for a value that is no integer from 0 to the most one."""
    if not is_number_from(place, 0) or place > most:
        raise BadPlace()


def check_number(value, least, most):
    """Raise BadNumber for a value that is no integer from the least to the most one."""
    if not is_number_from(value, least) or value > most:
        raise BadNumber()


def check_kinds(many):
    """Raise BadNumber for a value that is no number of kinds of letters."""
    check_number(many, 1, len(LETTERS))


def check_number_from(value, least):
    """Raise BadNumber for a value that is no integer from the least one on."""
    if not is_number_from(value, least):
        raise BadNumber()


def check_length(size):
    """Raise TooLong for a number of letters that no word that is told back may have."""
    if size > MOST_LETTERS_SAID:
        raise TooLong(MOST_LETTERS_SAID)


def check_greatness(number):
    """Raise TooGreat for a number that no count may come to."""
    if number > GREATEST_COUNT:
        raise TooGreat(GREATEST_COUNT)
