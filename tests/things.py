"""What the tests share: things of every kind, and a way to look at refusals."""

import unittest

from alwaysmeet.errors import Apart, MeetError, NoHouse, NoUndo
from alwaysmeet.houses import Houses

TWELVE = ["mill", "inn", "barn", "forge", "a", "zzzzzz", "well", "tower", "gate", "shop", "dock", "farm"]


def twenty_deep():
    thing = []
    for turn in range(19):
        thing = [thing] if turn % 2 else (thing,)
    return thing


def other_things():
    """Things of every kind that may be handed in, none of them a list, a tuple, a text or a whole number."""
    return [
        None,
        True,
        False,
        {},
        {"a": 1},
        {"mill": 0, "inn": 1},
        Houses(["a", "b"]),
        MeetError("a"),
        NoHouse("a"),
        NoUndo(),
        Apart(["a"], ["b"]),
    ]


def whole_numbers():
    return [0, 1, 2, 7, -1, -7, 4095, 4096, 10**30 - 1, 1 - 10**30]


def rows():
    """Lists and tuples, of things of every kind."""
    return [
        [],
        (),
        [[]],
        ["a"],
        ("a",),
        ["mill", "inn"],
        [1],
        [None],
        [True, False],
        [{"a": 1}],
        [Houses(["a"])],
        [("mill",)],
        twenty_deep(),
        [0] * 4100,
    ]


def texts():
    return ["", " ", "a", "mill", "Mill", "lots", "all", "0", "7", "-1", "a b", "a\n", "\n", "~", "x" * 61447]


class Refusals(unittest.TestCase):
    def refused(self, kind, ask, *things, **named):
        """The refusal that comes of asking so, which has to be of just this class."""
        with self.assertRaises(MeetError) as caught:
            ask(*things, **named)
        self.assertIs(type(caught.exception), kind)
        return caught.exception

    def refused_with(self, kind, found, ask, *things, **named):
        """Likewise, and its field is the very thing."""
        self.assertIs(self.refused(kind, ask, *things, **named).found, found)
