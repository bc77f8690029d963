"""Whole numbers, names, the own words, and numbers written in figures."""

LETTERS = "abcdefghijklmnopqrstuvwxyz"
FIGURES = "0123456789"
MOST_LETTERS = 6
MOST_FIGURES = 30
OWN_WORDS = (
    "lots",
    "many",
    "weights",
    "grid",
    "wall",
    "tree",
    "put",
    "reads",
    "writes",
    "none",
    "stands",
    "falls",
    "all",
)


def is_whole(thing):
    """Whether the thing is a whole number."""
    # For Python True and False are ints, too; here they are no numbers.
    return isinstance(thing, int) and not isinstance(thing, bool)


def is_within(thing, low, high):
    """Whether the thing is a whole number from low to high."""
    return is_whole(thing) and low <= thing <= high


def is_made_of(thing, signs, most):
    """Whether the thing is a text of one sign up to so many, all of them among the signs."""
    if not isinstance(thing, str) or not 1 <= len(thing) <= most:
        return False
    return all([sign in signs for sign in thing])


def is_name(thing):
    """Whether the thing is a name that a house may have."""
    return is_made_of(thing, LETTERS, MOST_LETTERS) and thing not in OWN_WORDS


def own_words():
    """The words that are no names."""
    return list(OWN_WORDS)


def plain_number(text, most):
    """The number that a text of at most so many figures writes plainly, or None."""
    if not is_made_of(text, FIGURES, most):
        return None
    if text[0] == "0" and text != "0":
        return None
    return int(text)


def number_in(text, low, high):
    """The number from low to high that the text writes, or None."""
    number = plain_number(text, MOST_FIGURES)
    return number if is_within(number, low, high) else None
