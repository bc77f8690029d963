"""Houses in their order, and sets of them as masks."""

from alwaysmeet.errors import NoHouse, NoHouses, NoNumber, NoSet, Twice
from alwaysmeet.words import is_name, is_within

MOST_HOUSES = 12


def are_houses(thing):
    """Whether the thing is a list or a tuple of one to twelve names, no two alike."""
    if not isinstance(thing, (list, tuple)) or not 1 <= len(thing) <= MOST_HOUSES:
        return False
    # Whether two are alike is asked of names alone: other things may fit into no set.
    return all([is_name(name) for name in thing]) and len(set(thing)) == len(thing)


class Houses:
    """One to twelve names in a told order, numbered from 0 in it."""

    def __init__(self, names):
        if not are_houses(names):
            raise NoHouses(names)
        self.row = tuple(names)
        self.places = {name: at for at, name in enumerate(names)}

    def names(self):
        """The names, in their order."""
        return list(self.row)

    def size(self):
        """How many houses there are."""
        return len(self.row)

    def number(self, name):
        """The number of the house of this name."""
        # Things that are no texts may be no keys, so they are not looked up.
        if not isinstance(name, str) or name not in self.places:
            raise NoHouse(name)
        return self.places[name]

    def mask(self, names):
        """The mask of a set: the sum of 2 to the power of each of its houses' numbers."""
        if not isinstance(names, (list, tuple)):
            raise NoSet(names)
        total = 0
        for name in names:
            bit = 1 << self.number(name)
            if total & bit:
                raise Twice(name)
            total += bit
        return total

    def set_of(self, mask):
        """The set that has this mask, in the order of the houses."""
        if not is_within(mask, 0, all_of(self)):
            raise NoNumber(mask)
        return [self.row[number] for number in numbers_of(mask)]


def same_houses(one, other):
    """Whether two Houses have the same names in the same order."""
    return one.names() == other.names()


def all_of(houses):
    """The mask of all houses, the greatest one."""
    return (1 << houses.size()) - 1


def told_mask(houses, thing):
    """The mask of what stands as sets are told, a list in the order of the houses; else None."""
    if not isinstance(thing, list):
        return None
    try:
        mask = houses.mask(thing)
    except (NoHouse, Twice):
        return None
    return mask if houses.set_of(mask) == thing else None


def numbers_of(mask):
    """The numbers of the houses of a mask, rising."""
    numbers = []
    number = 0
    while (mask >> number) > 0:
        if (mask >> number) & 1:
            numbers.append(number)
        number += 1
    return numbers


def count_of(mask):
    """How many houses the set of a mask has."""
    return len(numbers_of(mask))


def key_of(mask):
    """What sets are ordered by: how many houses, then the houses' numbers, rising."""
    numbers = numbers_of(mask)
    return len(numbers), tuple(numbers)


def in_order(masks):
    """The masks in the order of their sets, those that are alike, too."""
    return sorted(masks, key=key_of)
