"""Loads: which share of all askings goes to which lot, and how little the houses can be loaded."""

from alwaysmeet.errors import NoDealing, NoLots, TooMany
from alwaysmeet.fractions import is_share, less_than, over_one_bottom, share_of, sum_shares, times_share
from alwaysmeet.games import most_gain
from alwaysmeet.houses import in_order, told_mask

MOST_LEAST_LOTS = 60


def has_dealt_lots(system, thing):
    """Whether the thing is a list of tuples, each of a lot as it is told and a share above nothing."""
    if not isinstance(thing, list):
        return False
    lots = {mask: True for mask in system.masks}
    for row in thing:
        if not isinstance(row, tuple) or len(row) != 2 or not is_share(row[1]) or row[1] == (0, 1):
            return False
        if told_mask(system.ground, row[0]) not in lots:
            return False
    return True


def is_dealing(system, thing):
    """Whether the thing is a dealing of the system."""
    if not has_dealt_lots(system, thing):
        return False
    masks = [system.ground.mask(lot) for lot, share in thing]
    if len(set(masks)) < len(masks) or masks != in_order(masks):
        return False
    tops, bottom = over_one_bottom([share for lot, share in thing])
    return sum(tops) == bottom


def loads_by(system, dealing):
    """The load of each house by what is a dealing, and the greatest one."""
    tops, bottom = over_one_bottom([share for lot, share in dealing])
    sums = {}
    for name in system.houses():
        sums[name] = sum([top for (lot, share), top in zip(dealing, tops) if name in lot])
    return {name: share_of(top, bottom) for name, top in sums.items()}, share_of(max(sums.values()), bottom)


def load_of(system, dealing):
    """The load of each house by a dealing, and the greatest one."""
    if not is_dealing(system, dealing):
        raise NoDealing(dealing)
    return loads_by(system, dealing)


def load_at_nothing(system):
    """What is told of the least load where the lot without houses can be asked each time."""
    shares = {name: (0, 1) for name in system.houses()}
    # Whichever houses have the shares, each lot has nothing of them at least.
    shares[system.houses()[0]] = (1, 1)
    return (0, 1), [([], (1, 1))], shares


def load_by_game(system):
    """What is told of the least load of a system that is least, and of which each lot has a house."""
    names, lots = system.houses(), system.lots()
    # Where no house is asked more than once, the more lots can be asked, the less is each one's load.
    rows = [[1 if name in lot else 0 for lot in lots] for name in names]
    gain, amounts, prices = most_gain(rows, [1] * len(names), [1] * len(lots))
    load = (gain[1], gain[0])
    dealing = [(lot, times_share(amount, load)) for lot, amount in zip(lots, amounts) if amount != (0, 1)]
    return load, dealing, {name: times_share(price, load) for name, price in zip(names, prices)}


def least_load(system):
    """The least load, a dealing that has it, and shares of houses by which no lot can load less."""
    if len(system.masks) == 0:
        raise NoLots([])
    least = system.least()
    many = len(least.masks)
    if many > MOST_LEAST_LOTS:
        raise TooMany(many)
    return load_at_nothing(least) if least.masks[0] == 0 else load_by_game(least)


def are_house_shares(system, thing):
    """Whether the thing is a dict from each house to a share, all of them together one."""
    names = system.houses()
    if not isinstance(thing, dict) or len(thing) != len(names):
        return False
    if not all([name in thing and is_share(thing[name]) for name in names]):
        return False
    return sum_shares(list(thing.values())) == (1, 1)


def shows_load(system, thing):
    """Whether the thing is the least load, with a dealing and shares of houses that show it."""
    if not isinstance(thing, tuple) or len(thing) != 3 or not is_share(thing[0]):
        return False
    load, dealing, shares = thing
    if not is_dealing(system, dealing) or not are_house_shares(system, shares):
        return False
    if less_than(load, loads_by(system, dealing)[1]):
        return False
    names = system.houses()
    tops, bottom = over_one_bottom([shares[name] for name in names])
    parts = {name: top for name, top in zip(names, tops)}
    return all([sum([parts[name] for name in lot]) * load[1] >= load[0] * bottom for lot in system.lots()])
