"""Plans looked at plainly, by what they tell of themselves: for tests that hold the program against it."""

import random

from alwaysmeet.plans import Grid, Lots, Many, Put, Tree, Wall, Weights

from things import TWELVE, all_sets


def houses_by(tale):
    word = tale[0]
    if word == "lots":
        return list(tale[1])
    if word == "many":
        return list(tale[2])
    if word == "weights":
        return [name for name, weight in tale[2]]
    if word == "tree":
        return [tale[1]] + [name for way in tale[2] for name in houses_by(way)]
    if word == "put":
        outer = houses_by(tale[2])
        at = outer.index(tale[1])
        return outer[:at] + houses_by(tale[3]) + outer[at + 1:]
    return [name for row in tale[1] for name in row]


def decides_by(tale, some):
    """Whether the set decides, of which houses that the plan doesn't have are left out."""
    some = set(some) & set(houses_by(tale))
    word = tale[0]
    if word == "lots":
        return any(set(lot) <= some for lot in tale[2])
    if word == "many":
        return len(some) >= tale[1]
    if word == "weights":
        return sum(weight for name, weight in tale[2] if name in some) >= tale[1]
    if word == "grid":
        return any(set(row) <= some for row in tale[1]) and any(set(pillar) <= some for pillar in zip(*tale[1]))
    if word == "wall":
        return any(
            set(row) <= some and all(set(behind) & some for behind in tale[1][at + 1:])
            for at, row in enumerate(tale[1])
        )
    if word == "tree":
        ways = [decides_by(way, some) for way in tale[2]]
        return (tale[1] in some and (not ways or any(ways))) or (bool(ways) and all(ways))
    others = [name for name in houses_by(tale[2]) if name != tale[1] and name in some]
    return decides_by(tale[2], others + [tale[1]] * decides_by(tale[3], some))


def random_rows(source, names):
    rows = []
    while names:
        many = min(len(names), source.randint(1, 6))
        rows.append(names[:many])
        names = names[many:]
    return rows


def random_tree(source, names, levels):
    """A tree of at most so many levels with some of the names, and the names that are left."""
    root, rest = names[0], names[1:]
    ways = []
    while levels > 1 and rest and len(ways) < 3 and source.random() < 0.7:
        way, rest = random_tree(source, rest, levels - 1)
        ways.append(way)
    return Tree(root, ways), rest


def random_simple(source, names):
    word = source.choice(["lots", "many", "weights", "grid", "wall", "tree"])
    if word == "lots":
        sets = all_sets(names)
        return Lots(names, source.sample(sets, source.randint(0, min(6, len(sets)))))
    if word == "many":
        return Many(source.randint(0, len(names)), names)
    if word == "weights":
        return Weights(source.randint(0, 40), [(name, source.choice([0, 1, 2, 5, 9, 99])) for name in names])
    if word == "tree":
        return random_tree(source, names, 4)[0]
    rows = random_rows(source, names)
    if word == "wall" and len(rows) <= 5:
        return Wall(rows)
    wide = source.randint(1, min(4, len(names)))
    high = source.randint(1, min(4, len(names) // wide))
    return Grid([names[at * wide:at * wide + wide] for at in range(high)])


def random_plan(source, names, puts):
    """A plan of some of the names, with at most so many puts within one another."""
    if puts == 0 or len(names) < 3 or source.random() < 0.3:
        return random_simple(source, names)
    cut = source.randint(1, len(names) - 1)
    outer = random_plan(source, names[:cut], puts - 1)
    name = source.choice(outer.houses())
    # Now and then the inner plan has the very name that goes out.
    inner = names[cut:] + [name] * source.randint(0, 1)
    return Put(name, outer, random_plan(source, inner, puts - 1))


def some_plans(many=150, houses=6, puts=2):
    """Plans of all kinds, always the same ones."""
    source = random.Random(11)
    return [random_plan(source, TWELVE[:source.randint(1, houses)], puts) for turn in range(many)]
