"""Two kinds of lots, for reading and for writing: each lot of the one shares a house with each of the other."""

from alwaysmeet.errors import Apart, NoHouses, NoLots, NoNumber
from alwaysmeet.houses import same_houses
from alwaysmeet.otherside import other_side, other_table
from alwaysmeet.plans import Grid, Weights
from alwaysmeet.systems import System, system_by
from alwaysmeet.words import is_within

MOST_MASK = 4095


def check_systems(reads, writes):
    """Refuses the first of both that is no system."""
    for thing in (reads, writes):
        if not isinstance(thing, System):
            raise NoLots(thing)


class Two:
    """Two systems of the same houses, the reads and the writes, whose lots always meet."""

    def __init__(self, reads, writes):
        check_systems(reads, writes)
        if not same_houses(reads.ground, writes.ground):
            raise NoHouses(writes.houses())
        for read in reads.lots():
            # What would stand behind the fall of this lot shares no house with it.
            write = writes.standing(read)
            if write is not None:
                raise Apart(read, write)
        self.reading = reads
        self.writing = writes

    def reads(self):
        """The system of the reads."""
        return self.reading

    def writes(self):
        """The system of the writes."""
        return self.writing

    def told(self):
        """What the reads and what the writes tell of themselves."""
        return self.reading.told(), self.writing.told()

    def swapped(self):
        """The two kinds in which reads and writes have changed places."""
        return Two(self.writing, self.reading)

    def is_full(self):
        """Whether all that meets every lot of the reads decides by the writes."""
        return self.writing.table() == other_table(self.reading.table())

    def filled(self):
        """The two kinds of the same reads whose writes are all that meets every lot of them."""
        return Two(self.reading, other_side(self.reading))


def two_of(system):
    """The two kinds of which the system is both the reads and the writes."""
    return Two(system, system)


def by_votes(rows, reads, writes):
    """The two kinds of weights with a mark for the reads and one for the writes."""
    one = Weights(reads, rows)
    other = Weights(writes, rows)
    if reads + writes <= sum(one.weights):
        raise NoNumber(writes)
    return Two(one.system(), other.system())


def by_grid(rows):
    """The two kinds whose reads are the rows of a grid, and whose writes are its pillars."""
    grid = Grid(rows)
    return Two(system_by(grid.houses(), grid.row_masks), system_by(grid.houses(), grid.pillar_masks))


def house_of(one, other):
    """The number of the first house of two masks, or None."""
    for mask in (one, other):
        if not is_within(mask, 0, MOST_MASK):
            raise NoNumber(mask)
    both = one & other
    return (both & -both).bit_length() - 1 if both > 0 else None


def rows_of(two):
    """A row for each lot of the reads and each of the writes, with the first house of both."""
    names = two.reading.houses()
    writes = list(zip(two.writing.masks, two.writing.lots()))
    rows = []
    for one, read in zip(two.reading.masks, two.reading.lots()):
        for other, write in writes:
            # Each row has lists of its own, which its asker may change.
            rows.append((list(read), list(write), names[house_of(one, other)]))
    return rows


def is_row(thing, read, write):
    """Whether the thing is a tuple of these two lots and a house of both."""
    if not isinstance(thing, tuple) or len(thing) != 3:
        return False
    return thing[0] == read and thing[1] == write and thing[2] in read and thing[2] in write


def shows_two(reads, writes, thing):
    """Whether the thing shows by a house for any two lots that these are two kinds."""
    check_systems(reads, writes)
    if not same_houses(reads.ground, writes.ground) or not isinstance(thing, list):
        return False
    if len(thing) != len(reads.masks) * len(writes.masks):
        return False
    write_lots = writes.lots()
    pairs = [(read, write) for read in reads.lots() for write in write_lots]
    return all([is_row(row, read, write) for row, (read, write) in zip(thing, pairs)])
