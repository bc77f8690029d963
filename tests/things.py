"""What the tests share: things of every kind, and a way to look at refusals."""

import itertools
import random
import unittest

from alwaysmeet.desk import Desk
from alwaysmeet.errors import Apart, MeetError, NoHouse, NoUndo
from alwaysmeet.houses import Houses
from alwaysmeet.keeping import Kept
from alwaysmeet.plans import Lots, Many, Tree
from alwaysmeet.systems import System
from alwaysmeet.twokinds import Two

TWELVE = ["mill", "inn", "barn", "forge", "a", "zzzzzz", "well", "tower", "gate", "shop", "dock", "farm"]


def twenty_deep():
    thing = []
    for turn in range(19):
        thing = [thing] if turn % 2 else (thing,)
    return thing


def other_things():
    """Things of every kind that may be handed in, none of them a list, a tuple, a text or a whole number."""
    return [
        None,
        True,
        False,
        {},
        {"a": 1},
        {"mill": 0, "inn": 1},
        Houses(["a", "b"]),
        System(["a", "b"], [["a"]]),
        Lots(["mill", "inn"], [["mill"]]),
        Many(1, ["mill", "inn"]),
        Tree("mill"),
        Two(System(["a", "b"], [["a"]]), System(["a", "b"], [["b", "a"]])),
        Kept(Two(System(["a"], [["a"]]), System(["a"], [["a"]]))),
        Desk(),
        MeetError("a"),
        NoHouse("a"),
        NoUndo(),
        Apart(["a"], ["b"]),
    ]


def whole_numbers():
    return [0, 1, 2, 7, -1, -7, 4095, 4096, 10**30 - 1, 1 - 10**30]


def rows():
    """Lists and tuples, of things of every kind."""
    return [
        [],
        (),
        [[]],
        ["a"],
        ("a",),
        ["mill", "inn"],
        [1],
        [None],
        [True, False],
        [{"a": 1}],
        [Houses(["a"])],
        [("mill",)],
        twenty_deep(),
        [0] * 4100,
    ]


def texts():
    return ["", " ", "a", "mill", "Mill", "lots", "all", "0", "7", "-1", "a b", "a\n", "\n", "~", "x" * 61447]


def nearly_number(number):
    yield from (number + 1, number - 1, -number, str(number), [number], 10**29)
    if number in (0, 1):
        yield number == 1


def nearly_row(row):
    """Lists or tuples that differ from this one in one place."""
    yield list(row) if isinstance(row, tuple) else tuple(row)
    yield from (row + row[:0].__class__(["a"]), row + row[:0].__class__([None]), dict(enumerate(row)))
    if isinstance(row, tuple) and len(row) == 2 and all(type(part) is int for part in row):
        yield (row[0] * 2, row[1] * 2)
    for at in range(len(row)):
        yield row[:at] + row[at + 1:]
        yield row[:at + 1] + row[at:]
        if at > 0:
            yield row[:at - 1] + row[at:at + 1] + row[at - 1:at] + row[at + 1:]
        for part in nearly(row[at]):
            yield row[:at] + row[:0].__class__([part]) + row[at + 1:]


def nearly_dict(told):
    yield list(told.items())
    yield list(told)
    yield {**told, "x": (0, 1)}
    yield {**told, 0: (0, 1)}
    yield dict(reversed(told.items()))
    for name in told:
        yield {other: told[other] for other in told if other != name}
        yield {(name.upper() if other == name else other): told[other] for other in told}
        for part in nearly(told[name]):
            yield {**told, name: part}


def nearly(thing):
    """Things that differ from this one in one place: by another kind, a number, an order, one less or more."""
    yield from (None, True, [thing], (thing,), {"a": thing})
    if isinstance(thing, str):
        yield from (thing + "a", thing[1:], thing.upper(), "b", [thing], list(thing))
    elif isinstance(thing, (list, tuple)):
        yield from nearly_row(thing)
    elif isinstance(thing, dict):
        yield from nearly_dict(thing)
    elif type(thing) is int:
        yield from nearly_number(thing)


def all_sets(names):
    """All sets of the houses, in the order of [3]."""
    return [list(some) for many in range(len(names) + 1) for some in itertools.combinations(names, many)]


def least_sets(names, decides):
    """The least sets that decide, in order, found by going through all sets."""
    sets = [set(some) for some in all_sets(names) if decides(some)]
    return [[name for name in names if name in some] for some in sets if not any(one < some for one in sets)]


def some_systems(many=60, houses=6):
    """Systems of up to so many houses, ones at the edges among them, always the same ones."""
    source = random.Random(7)
    told = [System(["a"], []), System(["a"], [[]]), System(["a"], [["a"]]), System(["a"], [[], ["a"]])]
    for turn in range(many):
        names = TWELVE[:source.randint(1, houses)]
        sets = all_sets(names)
        lots = source.sample(sets, source.randint(0, min(len(sets), 8)))
        # The set without houses would settle most questions, so it is left in only now and then.
        told.append(System(names, [lot[::-1] for lot in lots if lot or turn % 5 == 0]))
    return told


class Refusals(unittest.TestCase):
    def refused(self, kind, ask, *things, **named):
        """The refusal that comes of asking so, which has to be of just this class."""
        with self.assertRaises(MeetError) as caught:
            ask(*things, **named)
        self.assertIs(type(caught.exception), kind)
        return caught.exception

    def refused_with(self, kind, found, ask, *things, **named):
        """Likewise, and its field is the very thing."""
        self.assertIs(self.refused(kind, ask, *things, **named).found, found)
