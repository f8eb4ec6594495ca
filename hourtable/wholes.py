"""Whole numbers: what they are, and how they are read."""

from hourtable.errors import NoText

FIGURES = "0123456789"
MOST_FIGURES = 60


def greatest_whole():
    """The greatest whole number of sixty figures."""
    return 10 ** 60 - 1


def is_whole(thing):
    """Tell of anything whether it is a whole number."""
    return isinstance(thing, int) and not isinstance(thing, bool)


def is_within(thing, low, high):
    """Tell of anything whether it is a whole number from low to high."""
    return is_whole(thing) and low <= thing <= high


def is_numeral(word):
    """Tell whether a word is a number of at most sixty figures, without noughts ahead."""
    # The length goes first: a word may be longer than what Python turns into a number.
    if len(word) < 1 or len(word) > MOST_FIGURES:
        return False
    if word[0] == "0" and len(word) > 1:
        return False
    # Python's own isdigit takes figures of other scripts too.
    return all([sign in FIGURES for sign in word])


def read_whole(word):
    """The whole number that a word tells, or NoText."""
    if not is_numeral(word):
        raise NoText("a number is written in figures, sixty at most, without noughts ahead")
    return int(word)
