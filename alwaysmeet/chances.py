"""Chances that a lot stands where each house falls by itself; how much a house matters, decides and turns."""

from alwaysmeet.errors import NoChance
from alwaysmeet.fractions import is_share, share_of
from alwaysmeet.houses import count_of

MOST_BOTTOM = 1000


def is_fall(thing):
    """Whether the thing is a chance that a house may fall with."""
    return is_share(thing) and thing[0] <= thing[1] <= MOST_BOTTOM


def check_falls(system, falls):
    """Refuses what doesn't tell a chance for each house of the system, and for no other."""
    names = system.houses()
    if not isinstance(falls, dict) or len(falls) != len(names):
        raise NoChance(falls)
    if not all([name in falls and is_fall(falls[name]) for name in names]):
        raise NoChance(falls)


def set_parts(system, falls):
    """For each mask the chance that just its houses stand, as a top over one bottom; and this bottom."""
    tops = [1]
    whole = 1
    for name in system.houses():
        top, bottom = falls[name]
        tops = [one * top for one in tops] + [one * (bottom - top) for one in tops]
        whole = whole * bottom
    return tops, whole


def sums_by_count(system, numbers):
    """For each number of houses the sum of the numbers of all masks of so many that decide."""
    sums = [0] * (system.ground.size() + 1)
    for mask, decides in enumerate(system.table()):
        if decides:
            sums[count_of(mask)] += numbers[mask]
    return sums


def chance(system, falls):
    """The chance that the houses that stand decide."""
    check_falls(system, falls)
    tops, whole = set_parts(system, falls)
    return share_of(sum(sums_by_count(system, tops)), whole)


def chance_rows(system, falls):
    """For each number of houses the chance that just so many stand and decide."""
    check_falls(system, falls)
    tops, whole = set_parts(system, falls)
    return [(many, share_of(top, whole)) for many, top in enumerate(sums_by_count(system, tops))]


def chance_with(system, falls, name, share):
    """The chance of the system where a house falls with another chance than the falls tell."""
    changed = dict(falls)
    changed[name] = share
    return chance(system, changed)


def chances_by(system, falls, name):
    """The chances of the system where a house stands surely, and where it falls surely."""
    check_falls(system, falls)
    # What is no house is refused here, so that no other key comes into the falls.
    system.ground.number(name)
    return chance_with(system, falls, name, (0, 1)), chance_with(system, falls, name, (1, 1))


def turned_masks(table, bit):
    """The masks whose sets don't decide, but do with the house of a bit."""
    # None of these sets has the house: with it, such a set would be as it is.
    return [mask for mask, decides in enumerate(table) if not decides and table[mask | bit]]


def turned_by(system):
    """For each house the bit of its mask, and the masks that decide with it and not without it."""
    table = system.table()
    return {name: (1 << number, turned_masks(table, 1 << number)) for number, name in enumerate(system.houses())}


def matters(system, falls):
    """For each house the chance that the others that stand decide with it and not without it."""
    check_falls(system, falls)
    tops, whole = set_parts(system, falls)
    told = {}
    for name, (bit, masks) in turned_by(system).items():
        # Whether the house itself stands or falls is no matter, so both are counted.
        told[name] = share_of(sum([tops[mask] + tops[mask | bit] for mask in masks]), whole)
    return told


def counts(system):
    """For each number of houses how many sets of just so many decide."""
    return sums_by_count(system, [1] * (1 << system.ground.size()))


def decides_of(system):
    """For each house how many sets don't decide without it, but do with it."""
    return {name: len(masks) for name, (bit, masks) in turned_by(system).items()}


def orders_of(many):
    """How many orders there are of none, of one and so on up to so many."""
    told = [1]
    for number in range(1, many + 1):
        told.append(told[-1] * number)
    return told


def turns(system):
    """For each house the part of all orders of coming in which it is the one with which they first decide."""
    many = system.ground.size()
    orders = orders_of(many)
    told = {}
    for name, (bit, masks) in turned_by(system).items():
        # Those of the set come ahead of the house in any order, all others behind it.
        sizes = [count_of(mask) for mask in masks]
        told[name] = share_of(sum([orders[size] * orders[many - 1 - size] for size in sizes]), orders[many])
    return told
