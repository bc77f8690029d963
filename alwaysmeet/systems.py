"""Systems of lots, told lot by lot or by masks."""

from alwaysmeet.errors import NoLots, NoNumber, Twice
from alwaysmeet.houses import Houses, all_of, in_order, numbers_of, same_houses
from alwaysmeet.words import is_within

MOST_LOTS = 1000


def lot_masks(houses, lots):
    """The masks of lots, as they were handed in."""
    if not isinstance(lots, (list, tuple)) or len(lots) > MOST_LOTS:
        raise NoLots(lots)
    masks = {}
    for lot in lots:
        mask = houses.mask(lot)
        if mask in masks:
            raise Twice(lot)
        masks[mask] = True
    return list(masks)


def table_of(masks, many):
    """For each mask of so many houses whether one of the masks is within it."""
    table = [False] * (1 << many)
    for mask in masks:
        table[mask] = True
    for number in range(many):
        bit = 1 << number
        for mask in range(1 << many):
            if mask & bit and table[mask ^ bit]:
                table[mask] = True
    return table


def least_masks(table):
    """The masks that decide by the table, and with any house less don't."""
    masks = []
    for mask, decides in enumerate(table):
        if decides and not any([table[mask ^ (1 << number)] for number in numbers_of(mask)]):
            masks.append(mask)
    return masks


class System:
    """Houses and lots, which are sets of them; whatever set has a lot within it decides."""

    def __init__(self, houses, lots):
        self.ground = Houses(houses)
        self.masks = tuple(in_order(lot_masks(self.ground, lots)))

    def houses(self):
        """The names of the houses, in their order."""
        return self.ground.names()

    def lots(self):
        """The lots, in order."""
        return [self.ground.set_of(mask) for mask in self.masks]

    def told(self):
        """All that the system is made of, as tuples."""
        return tuple(self.houses()), tuple([tuple(lot) for lot in self.lots()])

    def first_lot(self, mask):
        """The first lot within the set of a mask, or None."""
        for lot in self.masks:
            if lot & mask == lot:
                return self.ground.set_of(lot)
        return None

    def decides(self, names):
        """Whether a lot is within the set."""
        return self.within(names) is not None

    def within(self, names):
        """The first lot within the set, or None."""
        return self.first_lot(self.ground.mask(names))

    def apart(self):
        """The first two lots that share no house, or None."""
        for at, one in enumerate(self.masks):
            # From the lot itself on, as the one without houses shares none with itself.
            for other in self.masks[at:]:
                if one & other == 0:
                    return self.ground.set_of(one), self.ground.set_of(other)
        return None

    def meets(self):
        """Whether any two lots share a house, and each one with itself."""
        return self.apart() is None

    def is_least(self):
        """Whether no lot has another one within it."""
        return len(least_masks(self.table())) == len(self.masks)

    def least(self):
        """The system of the same houses with the lots made least."""
        return system_by_table(self.houses(), self.table())

    def standing(self, fallen):
        """The first lot in which no house has fallen, or None."""
        return self.first_lot(all_of(self.ground) ^ self.ground.mask(fallen))

    def alike(self, other):
        """Whether both have the same houses in the same order, and the same sets decide."""
        return same_houses(self.ground, other.ground) and self.table() == other.table()

    def table(self):
        """For each mask, from 0 on, whether its set decides."""
        return table_of(self.masks, self.ground.size())


def system_by_table(names, table):
    """The system whose lots are the least sets that decide by a table."""
    houses = Houses(names)
    return System(names, [houses.set_of(mask) for mask in least_masks(table)])


def system_by(houses, masks):
    """The system whose lots are the sets of these masks made least."""
    ground = Houses(houses)
    if not isinstance(masks, (list, tuple)):
        raise NoLots(masks)
    for mask in masks:
        if not is_within(mask, 0, all_of(ground)):
            raise NoNumber(mask)
    return system_by_table(houses, table_of(masks, ground.size()))
