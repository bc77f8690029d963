"""A value kept at houses by two kinds of lots, while houses fall and come back."""

from alwaysmeet.errors import Fallen, NoKind, NoLots, NoneStands, NoUndo, NoValue, Standing
from alwaysmeet.houses import numbers_of
from alwaysmeet.twokinds import Two
from alwaysmeet.words import is_whole


class Kept:
    """A keeper: for each house its stamp and its value, which houses have fallen, and what was done so far."""

    def __init__(self, two):
        if not isinstance(two, Two):
            raise NoKind(two)
        self.pair = two
        self.ground = two.reads().ground
        self.cells = ((0, 0),) * self.ground.size()
        self.down = 0
        # Each deed with the cells and the fallen houses as they were ahead of it.
        self.past = []

    def two(self):
        """The two kinds of lots."""
        return self.pair

    def done(self, deed, cells, down):
        """Notes a deed, and what has come of it."""
        self.past.append((deed, self.cells, self.down))
        self.cells = cells
        self.down = down

    def fall(self, name):
        """The house falls."""
        bit = 1 << self.ground.number(name)
        if self.down & bit:
            raise Fallen(name)
        self.done(("fall", name), self.cells, self.down | bit)

    def come(self, name):
        """The house comes back, with what it had when it fell."""
        bit = 1 << self.ground.number(name)
        if not self.down & bit:
            raise Standing(name)
        self.done(("come", name), self.cells, self.down ^ bit)

    def fallen(self):
        """The houses that have fallen."""
        return self.ground.set_of(self.down)

    def stamp_at(self, name):
        """The stamp and the value of a house."""
        return self.cells[self.ground.number(name)]

    def chosen(self, system, some, kind):
        """The mask of a set that decides and stands, or of the first lot that stands where it is left out."""
        if some is None:
            lot = system.standing(self.fallen())
            if lot is None:
                raise NoneStands(kind)
            return self.ground.mask(lot)
        mask = self.ground.mask(some)
        if not system.decides(some):
            raise NoLots(some)
        down = self.ground.set_of(mask & self.down)
        if len(down) > 0:
            raise Fallen(down[0])
        return mask

    def write(self, value, asked=None, lot=None):
        """Asks some houses for their stamps, and gives each house of a lot a greater one, and the value."""
        if not is_whole(value):
            raise NoValue(value)
        asked_mask = self.chosen(self.pair.reads(), asked, "reads")
        lot_mask = self.chosen(self.pair.writes(), lot, "writes")
        # Some house is asked: the set without houses decides only where no lot of the writes was let by.
        stamp = 1 + max([self.cells[number][0] for number in numbers_of(asked_mask)])
        cells = list(self.cells)
        for number in numbers_of(lot_mask):
            cells[number] = (stamp, value)
        asked_set, lot_set = self.ground.set_of(asked_mask), self.ground.set_of(lot_mask)
        self.done(("write", value, stamp, tuple(asked_set), tuple(lot_set)), tuple(cells), self.down)
        return stamp, asked_set, lot_set

    def read(self, asked=None):
        """The value with the greatest stamp of the houses that are asked, this stamp, and the first that has it."""
        numbers = numbers_of(self.chosen(self.pair.reads(), asked, "reads"))
        if len(numbers) == 0:
            return 0, 0, None
        stamps = [self.cells[number][0] for number in numbers]
        first = numbers[stamps.index(max(stamps))]
        return self.cells[first][1], self.cells[first][0], self.ground.names()[first]

    def undo(self):
        """Undoes what was done last."""
        if len(self.past) == 0:
            raise NoUndo()
        ahead = self.past.pop()
        self.cells = ahead[1]
        self.down = ahead[2]

    def history(self):
        """All deeds that were done and not undone, in order."""
        return [deed for deed, cells, down in self.past]

    def writes_done(self):
        """The stamp and the value of each write that was done and not undone, in order."""
        return [(deed[2], deed[1]) for deed in self.history() if deed[0] == "write"]

    def newest(self):
        """The stamp and the value of the last write."""
        return ([(0, 0)] + self.writes_done())[-1]

    def missed(self):
        """For each house how many writes have a stamp greater than its own."""
        stamps = [stamp for stamp, value in self.writes_done()]
        told = {}
        for name, (own, value) in zip(self.ground.names(), self.cells):
            told[name] = len([stamp for stamp in stamps if stamp > own])
        return told
