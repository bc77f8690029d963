"""The most gain that amounts can bring which fit into rows, with prices that show that no amounts bring more."""

from alwaysmeet.fractions import is_share, over_one_bottom, share_of


class Board:
    """Rows, ends and gains, rewritten step by step, in whole numbers over one bottom.

    Each row has a column for each amount, one for what each row has left, and one for its end; the last row
    has what each column still costs. One column of each other row is told by it; all other ones are nought.
    """

    def __init__(self, rows, ends, gains):
        self.amounts = len(gains)
        self.height = len(rows)
        self.bottom = 1
        self.lines = []
        for at, row in enumerate(rows):
            left = [1 if at == other else 0 for other in range(self.height)]
            self.lines.append(list(row) + left + [ends[at]])
        self.lines.append([-gain for gain in gains] + [0] * (self.height + 1))
        self.basis = [self.amounts + at for at in range(self.height)]

    def best_column(self):
        """The column that promises the most for each part of it, or None where none promises any."""
        costs = self.lines[-1][:-1]
        least = min(costs, default=0)
        return costs.index(least) if least < 0 else None

    def is_tighter(self, one, other, column):
        """Whether the first line bounds the column more tightly than the second one."""
        # Where the ends are even, the columns of what is left tell them apart: so no board ever comes again.
        for at in [-1] + list(range(self.amounts, self.amounts + self.height)):
            left = one[at] * other[column]
            right = other[at] * one[column]
            if left != right:
                return left < right
        return False

    def tightest_row(self, column):
        """The number of the row that bounds the column most tightly, or None where none bounds it."""
        found = None
        for at in range(self.height):
            line = self.lines[at]
            if line[column] > 0 and (found is None or self.is_tighter(line, self.lines[found], column)):
                found = at
        return found

    def turn(self, row, column):
        """Lets the row tell the column."""
        pivot = self.lines[row]
        by = pivot[column]
        for at, line in enumerate(list(self.lines)):
            if at != row:
                times = line[column]
                # The old bottom always divides this: each number is a determinant of the first board.
                self.lines[at] = [(one * by - other * times) // self.bottom for one, other in zip(line, pivot)]
        self.bottom = by
        self.basis[row] = column

    def told(self):
        """The most gain, the amounts and the prices."""
        amounts = [(0, 1)] * self.amounts
        for row, column in enumerate(self.basis):
            if column < self.amounts:
                amounts[column] = share_of(self.lines[row][-1], self.bottom)
        costs = self.lines[-1]
        prices = [share_of(cost, self.bottom) for cost in costs[self.amounts:-1]]
        return share_of(costs[-1], self.bottom), amounts, prices


def most_gain(rows, ends, gains):
    """The most gain, amounts that bring it and prices that show it; or None where there is no bound."""
    board = Board(rows, ends, gains)
    column = board.best_column()
    while column is not None:
        row = board.tightest_row(column)
        if row is None:
            return None
        board.turn(row, column)
        column = board.best_column()
    return board.told()


def are_shares(thing, many):
    """Whether the thing is a list of so many shares."""
    return isinstance(thing, list) and len(thing) == many and all([is_share(share) for share in thing])


def times_each(numbers, others):
    """The sum of the numbers, each times the other one at its place."""
    return sum([one * other for one, other in zip(numbers, others)])


def shows_most(rows, ends, gains, thing):
    """Whether the thing is the most gain, with amounts that bring it and prices that show it."""
    if not isinstance(thing, tuple) or len(thing) != 3 or not is_share(thing[0]):
        return False
    if not are_shares(thing[1], len(gains)) or not are_shares(thing[2], len(rows)):
        return False
    top, under = thing[0]
    amounts, whole = over_one_bottom(thing[1])
    prices, unit = over_one_bottom(thing[2])
    fit = all([times_each(row, amounts) <= end * whole for row, end in zip(rows, ends)])
    pillars = [[row[at] for row in rows] for at in range(len(gains))]
    cover = all([times_each(pillar, prices) >= gain * unit for pillar, gain in zip(pillars, gains)])
    gained = times_each(gains, amounts) * under == top * whole
    return fit and cover and gained and times_each(ends, prices) * under == top * unit
