"""Spare sets, and systems widened by them until each is its own other side."""

from alwaysmeet.errors import Apart
from alwaysmeet.houses import in_order, told_mask
from alwaysmeet.systems import system_by_table


def is_spare(table, mask):
    """Whether the set of a mask has a house, meets every lot, and has no lot within it."""
    # It meets every lot just where no lot is within the houses that are not in it.
    return mask > 0 and not table[mask] and not table[len(table) - 1 - mask]


def put_in(table, mask):
    """The table of what comes of putting in the set of a mask as a lot."""
    return [decides or at & mask == mask for at, decides in enumerate(table)]


def masks_in_order(table):
    """The masks of a table, in the order of sets."""
    return in_order(list(range(len(table))))


def spare_set(system):
    """The first spare set, or None."""
    table = system.table()
    for mask in masks_in_order(table):
        if is_spare(table, mask):
            return system.ground.set_of(mask)
    return None


def check_meets(system):
    """Refuses a system with two lots that share no house."""
    pair = system.apart()
    if pair is not None:
        raise Apart(pair[0], pair[1])


def widened(system):
    """What the system is widened to, and the sets that were put in."""
    check_meets(system)
    table = system.table()
    masks = masks_in_order(table)
    sets = []
    # Once over all sets is enough: what is not spare doesn't become spare by putting in others.
    for mask in masks:
        if is_spare(table, mask):
            table = put_in(table, mask)
            sets.append(system.ground.set_of(mask))
    return system_by_table(system.houses(), table), sets


def shows_widened(system, thing):
    """Whether the thing is a row of sets by which the system may be widened."""
    check_meets(system)
    if not isinstance(thing, list):
        return False
    table = system.table()
    for some in thing:
        mask = told_mask(system.ground, some)
        if mask is None or not is_spare(table, mask):
            return False
        table = put_in(table, mask)
    return not any([is_spare(table, mask) for mask in range(len(table))])
