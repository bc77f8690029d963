"""Plans: rules by which sets of houses decide, and the systems that they tell."""

from alwaysmeet.errors import MeetError, NoNumber, NoPlan
from alwaysmeet.houses import Houses, all_of, count_of, numbers_of
from alwaysmeet.systems import System, system_by_table
from alwaysmeet.words import is_name, is_within

MOST_MARK = 1188
MOST_WEIGHT = 99
MOST_WEIGHTS = 12
MOST_GRID = 4
MOST_WALL_ROWS = 5
MOST_WALL_THINGS = 6
MOST_WAYS = 3
MOST_LEVELS = 4
MOST_PUTS = 4
LENGTHS = {"lots": 3, "many": 3, "weights": 3, "grid": 2, "wall": 2, "tree": 3, "put": 4}


class Plan:
    """What the seven kinds have in common; the rule of each kind is its own lets(mask)."""

    def __init__(self, houses, tale):
        self.ground = houses
        self.tale = tale
        # How many puts stand within one another.
        self.puts = 0

    def houses(self):
        """The names of the houses, in their order."""
        return self.ground.names()

    def decides(self, names):
        """Whether the set decides."""
        return self.lets(self.ground.mask(names))

    def system(self):
        """The system whose lots are the least sets that decide."""
        table = [self.lets(mask) for mask in range(1 << self.ground.size())]
        return system_by_table(self.houses(), table)

    def word(self):
        """The word of the plan's kind."""
        return self.tale[0]

    def told(self):
        """The plan as a tuple, its word ahead."""
        return self.tale


def one_within(masks, mask):
    """Whether one of the masks is within the mask."""
    return any([one & mask == one for one in masks])


class Lots(Plan):
    """A set decides where a lot is within it."""

    def __init__(self, names, lots):
        system = System(names, lots)
        row, sets = system.told()
        Plan.__init__(self, Houses(names), ("lots", row, sets))
        self.masks = system.masks

    def lets(self, mask):
        """Whether the set of the mask decides."""
        return one_within(self.masks, mask)


class Many(Plan):
    """A set decides that has at least so many houses."""

    def __init__(self, count, names):
        houses = Houses(names)
        if not is_within(count, 0, houses.size()):
            raise NoNumber(count)
        Plan.__init__(self, houses, ("many", count, tuple(names)))
        self.mark = count

    def lets(self, mask):
        """Whether the set of the mask decides."""
        return count_of(mask) >= self.mark


def is_weight(thing):
    """Whether the thing is a tuple of a name and a weight."""
    if not isinstance(thing, tuple) or len(thing) != 2:
        return False
    return is_name(thing[0]) and is_within(thing[1], 0, MOST_WEIGHT)


def are_weights(thing):
    """Whether the thing is a row of weights, of which two may have the same name."""
    if not isinstance(thing, (list, tuple)) or not 1 <= len(thing) <= MOST_WEIGHTS:
        return False
    return all([is_weight(row) for row in thing])


class Weights(Plan):
    """A set decides where the weights of its houses come to the mark, or to more."""

    def __init__(self, mark, rows):
        if not is_within(mark, 0, MOST_MARK):
            raise NoNumber(mark)
        if not are_weights(rows):
            raise NoPlan(rows)
        Plan.__init__(self, Houses([row[0] for row in rows]), ("weights", mark, tuple(rows)))
        self.mark = mark
        self.weights = tuple([row[1] for row in rows])

    def lets(self, mask):
        """Whether the set of the mask decides."""
        return sum([self.weights[number] for number in numbers_of(mask)]) >= self.mark


def are_rows(thing, most_rows, most_things):
    """Whether the thing is a list or a tuple of such, each with one thing at least."""
    if not isinstance(thing, (list, tuple)) or not 1 <= len(thing) <= most_rows:
        return False
    return all([isinstance(row, (list, tuple)) and 1 <= len(row) <= most_things for row in thing])


def houses_of_rows(rows):
    """The houses of rows, row by row."""
    return Houses([thing for row in rows for thing in row])


def row_tuples(rows):
    """Rows as tuples."""
    return tuple([tuple(row) for row in rows])


class Grid(Plan):
    """A set decides that has all of one row and all of one pillar."""

    def __init__(self, rows):
        if not are_rows(rows, MOST_GRID, MOST_GRID) or len(set([len(row) for row in rows])) > 1:
            raise NoPlan(rows)
        houses = houses_of_rows(rows)
        Plan.__init__(self, houses, ("grid", row_tuples(rows)))
        pillars = [[row[at] for row in rows] for at in range(len(rows[0]))]
        self.row_masks = tuple([houses.mask(row) for row in rows])
        self.pillar_masks = tuple([houses.mask(pillar) for pillar in pillars])

    def lets(self, mask):
        """Whether the set of the mask decides."""
        return one_within(self.row_masks, mask) and one_within(self.pillar_masks, mask)


class Wall(Plan):
    """A set decides that has all of a row, and of each row behind it one house at least."""

    def __init__(self, rows):
        if not are_rows(rows, MOST_WALL_ROWS, MOST_WALL_THINGS):
            raise NoPlan(rows)
        houses = houses_of_rows(rows)
        Plan.__init__(self, houses, ("wall", row_tuples(rows)))
        self.row_masks = tuple([houses.mask(row) for row in rows])

    def lets(self, mask):
        """Whether the set of the mask decides."""
        # From the last row on: where a row has no house of the set, no row ahead can do.
        for row in self.row_masks[::-1]:
            if row & mask == row:
                return True
            if row & mask == 0:
                return False
        return False


def are_ways(thing):
    """Whether the thing is a list or a tuple of trees that one root may have as its ways."""
    if not isinstance(thing, (list, tuple)) or len(thing) > MOST_WAYS:
        return False
    return all([isinstance(way, Tree) and way.levels < MOST_LEVELS for way in thing])


class Tree(Plan):
    """A set decides that has the root and a way that decides, or of which all ways decide."""

    def __init__(self, root, ways=None):
        if not is_name(root):
            raise NoPlan(root)
        if ways is not None and not are_ways(ways):
            raise NoPlan(ways)
        trees = () if ways is None else tuple(ways)
        names = [root] + [name for way in trees for name in way.houses()]
        tales = tuple([way.told() for way in trees])
        Plan.__init__(self, Houses(names), ("tree", root, tales))
        self.ways = trees
        self.levels = 1 + max([way.levels for way in trees], default=0)

    def lets(self, mask):
        """Whether the set of the mask decides."""
        root = mask & 1 == 1
        if len(self.ways) == 0:
            return root
        by_ways = []
        rest = mask >> 1
        for way in self.ways:
            by_ways.append(way.lets(rest & all_of(way.ground)))
            rest = rest >> way.ground.size()
        return all(by_ways) or (root and any(by_ways))


def may_be_put(thing):
    """Whether the thing is a plan that may be one of the two of a put."""
    return isinstance(thing, Plan) and thing.puts < MOST_PUTS


class Put(Plan):
    """In the place of a house of the outer plan the inner one stands."""

    def __init__(self, name, outer, inner):
        for plan in (outer, inner):
            if not may_be_put(plan):
                raise NoPlan(plan)
        place = outer.ground.number(name)
        names = outer.houses()
        names[place:place + 1] = inner.houses()
        Plan.__init__(self, Houses(names), ("put", name, outer.told(), inner.told()))
        self.puts = 1 + max(outer.puts, inner.puts)
        self.outer = outer
        self.inner = inner
        self.gap = place

    def lets(self, mask):
        """Whether the set of the mask decides."""
        ahead = mask & ((1 << self.gap) - 1)
        rest = mask >> self.gap
        behind = rest >> self.inner.ground.size()
        decides = self.inner.lets(rest & all_of(self.inner.ground))
        whole = ahead | (behind << (self.gap + 1))
        return self.outer.lets(whole | (1 << self.gap) if decides else whole)


def simple_plan(parts):
    """The plan of a word and what stands behind it; of those kinds that have no plans within."""
    word = parts[0]
    if word == "lots":
        return Lots(parts[1], parts[2])
    if word == "many":
        return Many(parts[1], parts[2])
    if word == "weights":
        return Weights(parts[1], parts[2])
    return Grid(parts[1]) if word == "grid" else Wall(parts[1])


def has_form(thing):
    """Whether the thing is a tuple of a plan's word and as many things as belong to it."""
    if not isinstance(thing, tuple) or len(thing) == 0 or not isinstance(thing[0], str):
        return False
    return LENGTHS.get(thing[0]) == len(thing)


def tree_by(told, levels):
    """The tree of what it tells, of at most so many levels."""
    # The levels are counted down, as the puts are below, so that no thing leads into too deep calls, nor, as it
    # may have one thing at very many places, into too many of them.
    if levels == 0 or not has_form(told) or told[0] != "tree":
        raise NoPlan(told)
    if not isinstance(told[2], tuple) or len(told[2]) > MOST_WAYS:
        raise NoPlan(told)
    return Tree(told[1], [tree_by(way, levels - 1) for way in told[2]])


def plan_by(told, puts):
    """The plan of what it tells, with at most so many puts within one another."""
    if not has_form(told):
        raise NoPlan(told)
    if told[0] == "tree":
        return tree_by(told, MOST_LEVELS)
    if told[0] != "put":
        return simple_plan(told)
    if puts == 0:
        raise NoPlan(told)
    return Put(told[1], plan_by(told[2], puts - 1), plan_by(told[3], puts - 1))


def plan_of(told):
    """The plan that tells just this."""
    try:
        plan = plan_by(told, MOST_PUTS)
    except MeetError:
        raise NoPlan(told) from None
    # Lists for tuples and lots out of order would make a plan, too, but no plan tells them.
    if plan.told() != told:
        raise NoPlan(told)
    return plan
