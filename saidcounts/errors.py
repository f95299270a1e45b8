"""The errors that the package raises."""


class SayError(ValueError):
    """The base class of all errors of the package."""


class BadWord(SayError):
    """A value is no word; place is that of the first wrong sign, None if the whole value is wrong."""

    def __init__(self, place):
        self.place = place


class BadRule(SayError):
    """A value is no rule; index is that of the first wrong item, None if the whole value is wrong."""

    def __init__(self, index):
        self.index = index


class BadCore(SayError):
    """A word is no core."""


class BadGaps(SayError):
    """A value is no tuple of gaps for the core that it stands beside."""


class BadNumber(SayError):
    """A value is not among the numbers, tuples of numbers or tuples of words that are allowed."""


class TooLong(SayError):
    """An answer would be longer than most."""

    def __init__(self, most):
        self.most = most


class BadPairs(SayError):
    """A value is no tuple of pairs; index is that of the first wrong item, None if the whole value is wrong."""

    def __init__(self, index):
        self.index = index


class BadRules(SayError):
    """A value is no tuple of four items, one for each letter."""


class TooGreat(SayError):
    """A number would be greater than most."""

    def __init__(self, most):
        self.most = most


class BadLetter(SayError):
    """A value is no letter."""


class BadPlace(SayError):
    """A value is no place of the word that it stands beside."""


class BadPattern(SayError):
    """A value is no string of 1 to 6 letters."""


class BadLevels(SayError):
    """A value is no rising tuple of numbers of levels of the word that it stands beside."""


class TooMany(SayError):
    """There are more than most levels."""

    def __init__(self, most):
        self.most = most


class BadLetters(SayError):
    """A value is no string of the letters that is asked for."""


class NotText(SayError):
    """A value is no string, or a longer one than a text may be."""


class InvalidText(SayError):
    """A text is that of no tall word; place is that of the first sign that is wrong or missing."""

    def __init__(self, place):
        self.place = place


class NothingToUndo(SayError):
    """A desk has no step that can be taken back."""
