"""Weights by which just the same sets decide, or sets that show that there are none."""

from alwaysmeet.errors import TooMany
from alwaysmeet.fractions import over_one_bottom
from alwaysmeet.games import most_gain
from alwaysmeet.houses import in_order, told_mask
from alwaysmeet.otherside import other_table
from alwaysmeet.systems import least_masks
from alwaysmeet.words import is_whole

MOST_SETS = 60


def has_house(mask, number):
    """1 where the house of this number is in the set of the mask, else 0."""
    return (mask >> number) & 1


def times_of(rows, number):
    """How often the house of this number stands in the sets of rows (mask, times)."""
    return sum([times for mask, times in rows if has_house(mask, number) == 1])


def without_house(rows, number, many):
    """The rows (mask, times) with the house of this number taken out of their sets so many times."""
    told = []
    left = many
    for mask, times in rows:
        part = min(times, left) if has_house(mask, number) == 1 else 0
        left -= part
        told.append((mask ^ (1 << number), part))
        told.append((mask, times - part))
    return [row for row in told if row[1] > 0]


def even_rows(some, others, many):
    """The rows of sets that don't decide, made even with the rows of those that do, for so many houses."""
    lacking = sum([times for mask, times in some]) - sum([times for mask, times in others])
    # Whatever doesn't decide doesn't with fewer houses either: so sets are filled up and houses taken out freely.
    even = others + [(0, lacking)]
    for number in range(many):
        even = without_house(even, number, times_of(even, number) - times_of(some, number))
    return even


def told_rows(houses, rows):
    """Rows (mask, times) as tuples (set, times), in order, each set once."""
    total = {}
    for mask, times in rows:
        total[mask] = total.get(mask, 0) + times
    return [(houses.set_of(mask), total[mask]) for mask in in_order(list(total))]


def told_none(houses, least, most, amounts):
    """What shows by amounts of the least sets that decide, and of the greatest that don't, that there are none."""
    times = over_one_bottom(amounts)[0]
    some = [row for row in zip(least, times[:len(least)]) if row[1] > 0]
    others = [row for row in zip(most, times[len(least):]) if row[1] > 0]
    even = even_rows(some, others, houses.size())
    return "none", told_rows(houses, some), told_rows(houses, even)


def told_weights(houses, prices):
    """What shows by prices of the houses, and of the mark behind them, that there are weights."""
    weights = over_one_bottom(prices)[0]
    return "weights", weights[houses.size()], list(zip(houses.names(), weights))


def check_many(masks):
    """Refuses more sets than are gone through."""
    if len(masks) > MOST_SETS:
        raise TooMany(len(masks))


def weights_of(system):
    """A mark and weights by which the same sets decide, or sets that show that there are none."""
    houses, table = system.ground, system.table()
    least = least_masks(table)
    check_many(least)
    # What the other side's least sets lack are the greatest sets that don't decide.
    most = [len(table) - 1 - mask for mask in least_masks(other_table(table))]
    check_many(most)
    rows = []
    for number in range(houses.size()):
        rows.append([has_house(mask, number) for mask in least] + [-has_house(mask, number) for mask in most])
    rows.append([-1] * len(least) + [1] * len(most))
    # Without a bound on those that don't decide, what can be gained at all could be gained without end.
    ends = [0] * len(rows) + [1]
    gains = [0] * len(least) + [1] * len(most)
    rows.append(gains)
    gain, amounts, prices = most_gain(rows, ends, gains)
    if gain == (0, 1):
        return told_weights(houses, prices)
    return told_none(houses, least, most, amounts)


def are_weights_in_order(houses, rows):
    """Whether the rows are a list of tuples of a house and a weight, one for each house, in order."""
    if not isinstance(rows, list) or len(rows) != houses.size():
        return False
    for name, row in zip(houses.names(), rows):
        if not isinstance(row, tuple) or len(row) != 2 or row[0] != name:
            return False
        if not is_whole(row[1]) or row[1] < 0:
            return False
    return True


def shows_weights(system, mark, rows):
    """Whether just those sets decide whose weights come to the mark, or to more."""
    if not is_whole(mark) or mark < 0 or not are_weights_in_order(system.ground, rows):
        return False
    sums = [0]
    for name, weight in rows:
        sums = sums + [one + weight for one in sums]
    return system.table() == [one >= mark for one in sums]


def masks_and_times(houses, thing):
    """The rows (mask, times) of a list of tuples (set, times), one or more; else None."""
    if not isinstance(thing, list) or len(thing) == 0:
        return None
    rows = []
    for row in thing:
        if not isinstance(row, tuple) or len(row) != 2 or not is_whole(row[1]) or row[1] < 1:
            return None
        mask = told_mask(houses, row[0])
        if mask is None:
            return None
        rows.append((mask, row[1]))
    return rows


def shows_none(system, some, others):
    """Whether sets that decide, and sets that don't, show that there are no weights."""
    ones = masks_and_times(system.ground, some)
    rest = masks_and_times(system.ground, others)
    if ones is None or rest is None:
        return False
    table = system.table()
    if not all([table[mask] for mask, times in ones]) or any([table[mask] for mask, times in rest]):
        return False
    if sum([times for mask, times in ones]) != sum([times for mask, times in rest]):
        return False
    return all([times_of(ones, number) == times_of(rest, number) for number in range(system.ground.size())])
