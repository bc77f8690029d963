"""Promises [5] to [7] and [80] to [82]: the most gain of fitting amounts, with prices that show it."""

import copy
import itertools
import random
import unittest
from fractions import Fraction

from alwaysmeet.games import most_gain, shows_most

from things import nearly, other_things, rows, texts, whole_numbers


def solved(lines, ends):
    """The one solution of as many lines as there are unknowns, or None."""
    lines = [[Fraction(number) for number in line] + [Fraction(end)] for line, end in zip(lines, ends)]
    for at in range(len(lines)):
        good = next((line for line in lines[at:] if line[at] != 0), None)
        if good is None:
            return None
        lines.remove(good)
        good = [number / good[at] for number in good]
        lines = [[one - line[at] * other for one, other in zip(line, good)] for line in lines]
        lines.insert(at, good)
    return [line[-1] for line in lines]


def plain_most(game_rows, ends, gains):
    """The most gain, by all corners of the prices; None where no prices do."""
    many = len(game_rows)
    unit = [[int(at == other) for other in range(many)] for at in range(many)]
    pillars = [[row[at] for row in game_rows] for at in range(len(gains))]
    walls = list(zip(pillars + unit, list(gains) + [0] * many))
    costs = []
    for some in itertools.combinations(walls, many):
        prices = solved([line for line, end in some], [end for line, end in some])
        if prices is not None and all(
            sum(one * other for one, other in zip(line, prices)) >= end for line, end in walls
        ):
            costs.append(sum(one * other for one, other in zip(prices, ends)))
    return min(costs, default=None)


def is_plain_share(thing):
    if type(thing) is not tuple or len(thing) != 2 or type(thing[0]) is not int or type(thing[1]) is not int:
        return False
    if thing[0] < 0 or thing[1] < 1:
        return False
    share = Fraction(*thing)
    return (share.numerator, share.denominator) == thing


def plain_shows(game_rows, ends, gains, thing):
    """Whether the thing shows the most gain, looked at plainly."""
    if type(thing) is not tuple or len(thing) != 3 or not is_plain_share(thing[0]):
        return False
    for part, many in ((thing[1], len(gains)), (thing[2], len(game_rows))):
        if type(part) is not list or len(part) != many or not all(is_plain_share(share) for share in part):
            return False
    gain = Fraction(*thing[0])
    amounts = [Fraction(*share) for share in thing[1]]
    prices = [Fraction(*share) for share in thing[2]]
    for row, end in zip(game_rows, ends):
        if sum(one * other for one, other in zip(row, amounts)) > end:
            return False
    for at, least in enumerate(gains):
        if sum(row[at] * price for row, price in zip(game_rows, prices)) < least:
            return False
    return gain == sum(one * other for one, other in zip(gains, amounts)) == sum(
        one * other for one, other in zip(ends, prices)
    )


def random_game(source, many, wide, low, high, most_end):
    game_rows = [[source.randint(low, high) for at in range(wide)] for row in range(many)]
    ends = [source.randint(0, most_end) for row in range(many)]
    return game_rows, ends, [source.randint(low, high) for at in range(wide)]


def some_games(many=150):
    """Small games, always the same ones, of which some have no bound."""
    source = random.Random(23)
    told = []
    for turn in range(many):
        low, high, end = source.choice([(-99, 99, 99), (-2, 3, 2), (0, 1, 1), (-1, 9, 9), (0, 99, 99), (-1, 1, 0)])
        told.append(random_game(source, source.randint(0, 3), source.randint(1, 4), low, high, end))
    return told


class Most(unittest.TestCase):
    def right(self, game):
        """What is told of a game, which has to be right."""
        told = most_gain(*game)
        if told is not None:
            self.assertTrue(plain_shows(*game, told), (game, told))
            self.assertIs(shows_most(*game, told), True)
            self.assertIs(shows_most(*game, copy.deepcopy(told)), True)
        return told

    def test_against_all_corners(self):
        seen = {True: 0, False: 0}
        for game in some_games(400):
            most, told = plain_most(*game), self.right(game)
            seen[told is None] += 1
            self.assertEqual(None if told is None else Fraction(*told[0]), most, game)
        self.assertGreater(min(seen.values()), 60)

    def test_told_cases(self):
        self.assertEqual(most_gain([[1, 1], [1, 3]], [4, 6], [3, 2])[:2], ((12, 1), [(4, 1), (0, 1)]))
        self.assertEqual(most_gain([[2, 1], [1, 3]], [4, 6], [3, 2])[0], (34, 5))
        self.assertEqual(most_gain([[2]], [1], [1]), ((1, 2), [(1, 2)], [(1, 2)]))
        self.assertEqual(most_gain(gains=[1], ends=[1], rows=[[2]]), ((1, 2), [(1, 2)], [(1, 2)]))

    def test_no_rows(self):
        self.assertIsNone(most_gain([], [], [1]))
        self.assertIsNone(most_gain([], [], [-99, 0, 1]))
        self.assertEqual(most_gain([], [], [0]), ((0, 1), [(0, 1)], []))
        self.assertEqual(self.right(([], [], [-99, 0]))[0], (0, 1))
        self.assertIs(shows_most([], [], [-1, 0], ((0, 1), [(0, 1), (7, 3)], [])), True)
        self.assertIs(shows_most([], [], [-1, 0], ((0, 1), [(1, 1), (7, 3)], [])), False)
        self.assertIs(shows_most([], [], [1], ((0, 1), [(0, 1)], [])), False)

    def test_gains_without_a_bound(self):
        for game in (
            ([[-1]], [0], [1]), ([[0]], [99], [99]), ([[1, -1]], [0], [1, 0]), ([[1, 0], [0, -99]], [1, 1], [-1, 1]),
            ([[-1, 1]], [5], [1, 1]), ([[1, -1], [-1, 1]], [0, 0], [1, 1]),
        ):
            self.assertIsNone(plain_most(*game))
            self.assertIsNone(most_gain(*game))

    def test_gains_below_nought(self):
        for game in (([[1, 2]], [3], [-1, -99]), ([[-1, -2]], [0], [-1, -2]), ([[99]] * 3, [0, 0, 99], [-99])):
            told = self.right(game)
            self.assertEqual(told[0], (0, 1))
            self.assertEqual(told[1], [(0, 1)] * len(game[2]))

    def test_ends_of_nought(self):
        for game in (
            ([[1]], [0], [99]), ([[1, -1], [1, 1]], [0, 0], [1, 1]),
            ([[1, -2, 1], [-1, 1, 1], [1, 1, -1]], [0] * 3, [1] * 3),
            ([[0, 0], [99, 99]], [0, 99], [99, 98]), ([[2, -1], [-1, 1]], [0, 0], [5, -3]),
        ):
            told, most = self.right(game), plain_most(*game)
            self.assertEqual(None if told is None else Fraction(*told[0]), most)

    def test_the_greatest_numbers(self):
        told = self.right(([[99] * 4, [-99] * 4, [99, -99, 99, -99]], [99, 0, 99], [99, 98, -99, 0]))
        self.assertEqual(told[0], (99, 1))
        self.assertEqual(self.right(([[1]], [99], [99]))[0], (9801, 1))

    def test_rows_alike(self):
        for times in (2, 5, 20):
            told = self.right(([[1, 2, 1]] * times, [3] * times, [1, 3, 2]))
            self.assertEqual(told[0], (6, 1))
            self.assertEqual(self.right(([[1, 2, 1]] * times, list(range(times)), [1, 3, 2]))[0], (0, 1))
        told = self.right(([[1, 2], [1, 2], [2, 1], [2, 1]], [3, 3, 3, 3], [1, 1]))
        self.assertEqual(told[:2], ((2, 1), [(1, 1), (1, 1)]))

    def test_gains_alike(self):
        told = self.right(([[1] * 130], [7], [3] * 130))
        self.assertEqual((told[0], told[2]), ((21, 1), [(3, 1)]))

    def test_one_gain_and_many_rows(self):
        source = random.Random(29)
        for turn in range(30):
            game = random_game(source, 20, 1, 1, 99, 99)
            right = min(Fraction(end, row[0]) for row, end in zip(game[0], game[1])) * game[2][0]
            self.assertEqual(Fraction(*self.right(game)[0]), right)

    def test_twenty_rows_and_130_gains(self):
        source = random.Random(31)
        for low, high, end in ((0, 99, 99), (1, 99, 99), (-9, 99, 9), (0, 1, 1), (-99, 99, 99)):
            for many in (8, 20):
                game = random_game(source, many, 130, low, high, end)
                told = self.right(game)
                if low > 0:
                    self.assertIsNotNone(told)
                # A last row with numbers above nought alone gives every game a bound.
                game[0][-1] = [source.randint(1, 99) for at in range(130)]
                self.assertIsNotNone(self.right(game))

    def test_steps_without_gain_come_to_an_end(self):
        # Where several rows are as tight and the first of them is always taken, each of these goes round for ever.
        for game_rows, gains in (
            ([[2, 1, -3, -3], [0, 1, 1, -2], [-1, -2, -2, -1], [0, 2, 0, -1]], [-3, 2, -1, 0]),
            ([[6, 90, -43, 12], [72, 62, -69, 52], [46, 18, -26, 94]], [43, -97, 39, -15]),
            ([[-51, 5, -10, 94], [78, 64, -29, 66], [-94, 89, 23, -60], [-90, 59, -20, 0]], [-58, 25, 10, -46]),
            ([[-78, 8, 99, -11], [14, -46, -42, 3], [-66, 32, 66, 69], [30, -6, -24, -45]], [-50, 80, 48, 7]),
            ([[-13, -12, 15, 2, -27], [23, -11, 3, 10, -26], [-18, -18, 23, -12, 27]], [-24, -7, -8, 2, -18]),
        ):
            game = (game_rows + [[1] * len(gains)], [0] * len(game_rows) + [1], gains)
            self.assertEqual(Fraction(*self.right(game)[0]), plain_most(*game))

    def test_the_same_answer_each_time_and_nothing_is_changed(self):
        for game in some_games(60):
            before = copy.deepcopy(game)
            told = most_gain(*game)
            self.assertEqual(game, before)
            again = most_gain(*copy.deepcopy(game))
            self.assertEqual(again, told)
            if told is not None:
                shows_most(*game, told)
                self.assertEqual((game, told), (before, again))
                told[1].clear()
                told[2].append(1)
                self.assertEqual(most_gain(*game), again)

    def test_kinds(self):
        told = most_gain([[1, 1], [1, 3]], [4, 6], [3, 2])
        self.assertEqual([type(part) for part in told], [tuple, list, list])
        for share in [told[0]] + told[1] + told[2]:
            self.assertTrue(is_plain_share(share))


class Shown(unittest.TestCase):
    def test_things_that_are_nearly_right(self):
        seen = {True: 0, False: 0}
        for game in some_games(80):
            told = most_gain(*game)
            if told is not None:
                for thing in nearly(told):
                    right = plain_shows(*game, thing)
                    seen[right] += 1
                    self.assertIs(shows_most(*game, thing), right, (game, thing))
        self.assertGreater(seen[False], 3000)

    def test_other_amounts_and_prices(self):
        game = ([[1, 1], [1, 1]], [2, 2], [1, 1])
        for amounts in ([(2, 1), (0, 1)], [(0, 1), (2, 1)], [(1, 1), (1, 1)], [(1, 2), (3, 2)]):
            for prices in ([(1, 1), (0, 1)], [(0, 1), (1, 1)], [(1, 3), (2, 3)]):
                self.assertIs(shows_most(*game, ((2, 1), amounts, prices)), True)
                self.assertIs(shows_most(*game, ((1, 1), amounts, prices)), False)
                self.assertIs(shows_most(*game, ((2, 1), prices, amounts)), False)
        for amounts, prices in (
            ([(1, 1), (0, 1)], [(1, 1), (0, 1)]), ([(2, 1), (1, 1)], [(1, 1), (0, 1)]),
            ([(1, 1), (1, 1)], [(1, 1), (1, 1)]), ([(1, 1), (1, 1)], [(1, 2), (0, 1)]),
        ):
            self.assertIs(shows_most(*game, ((2, 1), amounts, prices)), False)
        self.assertIs(shows_most(thing=((2, 1), [(1, 1), (1, 1)], [(1, 1), (0, 1)]), gains=[1, 1], ends=[2, 2],
                                 rows=[[1, 1], [1, 1]]), True)

    def test_fitting_is_looked_at_for_each_row(self):
        game = ([[1, 0], [0, 1]], [1, 1], [1, 1])
        self.assertIs(shows_most(*game, ((2, 1), [(1, 1), (1, 1)], [(1, 1), (1, 1)])), True)
        self.assertIs(shows_most(*game, ((2, 1), [(2, 1), (0, 1)], [(1, 1), (1, 1)])), False)
        self.assertIs(shows_most(*game, ((2, 1), [(1, 1), (1, 1)], [(2, 1), (0, 1)])), False)

    def test_shares_of_400_figures(self):
        great = 10**399
        game = ([[1, 1]], [1], [1, 1])
        self.assertIs(shows_most(*game, ((1, 1), [(1, great), (great - 1, great)], [(1, 1)])), True)
        self.assertIs(shows_most(*game, ((1, 1), [(1, great), (great - 2, great)], [(1, 1)])), False)
        self.assertIs(shows_most(*game, ((1, 1), [(1, great), (great - 1, great)], [(great + 1, great)])), False)
        shares = [(1, great - at) for at in range(130)]
        self.assertIs(shows_most([[1] * 130], [1], [1] * 130, ((1, 1), shares, [(1, 1)])), False)

    def test_any_thing(self):
        for game in (([[1]], [1], [1]), ([], [], [0]), ([[1, 1]], [0], [0, -1])):
            told = most_gain(*game)
            for thing in other_things() + rows() + texts() + whole_numbers():
                self.assertIs(shows_most(*game, thing), False)
                self.assertIs(shows_most(*game, (thing, told[1], told[2])), False)
                self.assertIs(shows_most(*game, (told[0], thing, told[2])), False)
                self.assertIs(shows_most(*game, (told[0], told[1], thing)), thing == [] and told[2] == [])
                self.assertIs(shows_most(*game, (told[0], [thing] + told[1][1:], told[2])), False)

    def test_nothing_shows_a_gain_without_a_bound(self):
        for gain in range(5):
            self.assertIs(shows_most([[-1]], [1], [1], ((gain, 1), [(gain, 1)], [(gain, 1)])), False)
        self.assertIs(shows_most([[-1]], [1], [1], None), False)


if __name__ == "__main__":
    unittest.main()
