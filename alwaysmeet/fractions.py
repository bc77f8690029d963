"""Shares: parts of a whole, as tuples (top, bottom) in lowest terms."""

from alwaysmeet.errors import NoShare
from alwaysmeet.words import is_whole, plain_number

SHARE_FIGURES = 400


def common(one, other):
    """The greatest number that divides both."""
    while other > 0:
        one, other = other, one % other
    return one


def make_a_share(top, bottom):
    """Whether these are a top and a bottom, in lowest terms or not."""
    return is_whole(top) and is_whole(bottom) and top >= 0 and bottom >= 1


def is_share(thing):
    """Whether the thing is a share."""
    if not isinstance(thing, tuple) or len(thing) != 2:
        return False
    top, bottom = thing
    return make_a_share(top, bottom) and common(top, bottom) == 1


def lowest(top, bottom):
    """The share of a top and a bottom."""
    most = common(top, bottom)
    return top // most, bottom // most


def share_of(top, bottom):
    """The share top / bottom, in lowest terms."""
    if not make_a_share(top, bottom):
        raise NoShare((top, bottom))
    return lowest(top, bottom)


def check_shares(shares):
    """Refuses the first thing that is no share."""
    for share in shares:
        if not is_share(share):
            raise NoShare(share)


def added(one, other):
    """The sum of two shares."""
    # Only what both bottoms have in common can be left to divide by, so long sums stay cheap.
    both = common(one[1], other[1])
    top = one[0] * (other[1] // both) + other[0] * (one[1] // both)
    left = common(top, both)
    return top // left, (one[1] // both) * (other[1] // left)


def plus_share(one, other):
    """The sum of two shares."""
    check_shares([one, other])
    return added(one, other)


def minus_share(one, other):
    """The first share less the second one."""
    check_shares([one, other])
    top = one[0] * other[1] - other[0] * one[1]
    if top < 0:
        raise NoShare((one, other))
    return lowest(top, one[1] * other[1])


def times_share(one, other):
    """The product of two shares."""
    check_shares([one, other])
    return lowest(one[0] * other[0], one[1] * other[1])


def less_than(one, other):
    """Whether the first share is less than the second one."""
    check_shares([one, other])
    return one[0] * other[1] < other[0] * one[1]


def sum_shares(shares):
    """The sum of all shares of a list or a tuple."""
    if not isinstance(shares, (list, tuple)):
        raise NoShare(shares)
    check_shares(shares)
    total = (0, 1)
    for share in shares:
        total = added(total, share)
    return total


def over_one_bottom(shares):
    """The tops of shares that are written over the least bottom that does for all, and this bottom."""
    bottom = 1
    for share in shares:
        bottom = bottom // common(bottom, share[1]) * share[1]
    return [top * (bottom // under) for top, under in shares], bottom


def share_text(share):
    """The text of a share."""
    check_shares([share])
    top, bottom = share
    return f"{top}" if bottom == 1 else f"{top}/{bottom}"


def written_share(text):
    """The top and the bottom that a text writes, in lowest terms or not; or None."""
    if not isinstance(text, str):
        return None
    over, stroke, under = text.partition("/")
    top = plain_number(over, SHARE_FIGURES)
    if stroke == "":
        return top, 1
    bottom = plain_number(under, SHARE_FIGURES)
    # A bottom of 1 is not written.
    return None if bottom == 1 else (top, bottom)


def share_in(text):
    """The share whose text this is."""
    share = written_share(text)
    if not is_share(share):
        raise NoShare(text)
    return share
