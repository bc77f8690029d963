"""The other side of a system: the least sets that meet every lot; and how falls are settled by both."""

from alwaysmeet.houses import told_mask
from alwaysmeet.systems import system_by_table


def other_table(table):
    """The table of the other side: a set decides there where the houses not in it don't decide here."""
    # The masks of a set and of the houses not in it are as far from the two ends of the table.
    return [not decides for decides in table[::-1]]


def other_side(system):
    """The system of the least sets that share a house with every lot."""
    return system_by_table(system.houses(), other_table(system.table()))


def is_own_side(system):
    """Whether the system made least has just the lots of its other side."""
    table = system.table()
    return table == other_table(table)


def settled(system, fallen):
    """The first lot that stands, or the first set of the other side that has fallen."""
    lot = system.standing(fallen)
    if lot is not None:
        return "stands", lot
    return "falls", other_side(system).within(fallen)


def shows_settled(system, fallen, thing):
    """Whether the thing shows that a lot stands, or that fallen houses meet every lot."""
    down = system.ground.mask(fallen)
    if not isinstance(thing, tuple) or len(thing) != 2:
        return False
    mask = told_mask(system.ground, thing[1])
    if mask is None:
        return False
    if thing[0] == "stands":
        return mask in system.masks and mask & down == 0
    return thing[0] == "falls" and mask & down == mask and all([mask & lot > 0 for lot in system.masks])
