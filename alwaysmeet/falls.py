"""Falls of houses: how many may fall, with a paper that shows it, and what falls leave."""

from alwaysmeet.errors import NoneStands
from alwaysmeet.houses import count_of, in_order
from alwaysmeet.words import is_whole


def leaving_table(system):
    """For each mask of fallen houses whether a lot stands."""
    # The houses that have not fallen are as far from the table's end as the fallen ones from its beginning.
    return system.table()[::-1]


def masks_of_size(table, size):
    """The masks of a table whose sets have so many houses, in the order of sets."""
    return in_order([mask for mask in range(len(table)) if count_of(mask) == size])


def most_more(leaves, down):
    """How many houses more may fall, whichever they are, by a table of what leaves a lot, where some are down."""
    rest = len(leaves) - 1 - down
    # What leaves none does so with the houses that are down, too: what it lacks of them doesn't count.
    sizes = [count_of(mask & rest) for mask, leave in enumerate(leaves) if not leave]
    # Where nothing leaves none, all that have not fallen may fall.
    return min(sizes, default=count_of(rest) + 1) - 1


def may_fall(system):
    """How many houses may fall, whichever they are."""
    return most_more(leaving_table(system), 0)


def fall_paper(system):
    """How many may fall, with a lot for each choice of so many, and a choice of one more that leaves none."""
    leaves = leaving_table(system)
    number = most_more(leaves, 0)
    rows = []
    for mask in masks_of_size(leaves, number):
        fallen = system.ground.set_of(mask)
        rows.append((fallen, system.standing(fallen)))
    least = least_falls(system)
    leaves_none = least[0] if len(least) > 0 else None
    return number, rows, leaves_none


def shows_fall(system, thing):
    """Whether the thing is the paper of how many may fall."""
    # The number is looked at by itself, as True would be equal to 1.
    return thing == fall_paper(system) and is_whole(thing[0])


def least_falls(system):
    """All smallest sets behind whose fall no lot stands."""
    leaves = leaving_table(system)
    masks = masks_of_size(leaves, most_more(leaves, 0) + 1)
    return [system.ground.set_of(mask) for mask in masks if not leaves[mask]]


def fall_counts(system):
    """For each number of fallen houses how many sets leave a lot standing, and how many leave none."""
    leave = [0] * (system.ground.size() + 1)
    leave_none = list(leave)
    for mask, stands in enumerate(leaving_table(system)):
        if stands:
            leave[count_of(mask)] += 1
        else:
            leave_none[count_of(mask)] += 1
    return list(zip(leave, leave_none))


def falling(system, order):
    """The first lot that stands, or None, as houses fall one by one."""
    # The whole row is refused as a set is, ahead of its beginnings.
    system.ground.mask(order)
    return [system.standing(order[:many]) for many in range(len(order) + 1)]


def last_hopes(system, fallen):
    """The houses that have not fallen without which no lot would stand any more."""
    down = system.ground.mask(fallen)
    leaves = leaving_table(system)
    if not leaves[down]:
        raise NoneStands("lots")
    # A house that has fallen is never among them, as a lot stands without it.
    return [name for number, name in enumerate(system.houses()) if not leaves[down | (1 << number)]]


def more_may_fall(system, fallen):
    """How many houses more may fall, whichever they are."""
    return most_more(leaving_table(system), system.ground.mask(fallen))
