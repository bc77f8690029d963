"""Promises [5] to [9] and [100] to [107]: chances, what matters, who decides and who turns it."""

import copy
import itertools
import math
import random
import unittest
from fractions import Fraction

from alwaysmeet.chances import chance, chance_rows, chances_by, counts, decides_of, matters, turns
from alwaysmeet.errors import NoChance, NoHouse
from alwaysmeet.fractions import sum_shares
from alwaysmeet.otherside import other_side
from alwaysmeet.plans import Many, Weights
from alwaysmeet.systems import System

from things import TWELVE, Refusals, all_sets, nearly, other_things, rows, some_systems, texts, whole_numbers

ABC = ["a", "b", "c"]
TWO_OF_THREE = Many(2, ABC).system()
HALF = (1, 2)
EDGES = [
    System(["a"], []), System(["a"], [[]]), System(["a"], [["a"]]), System(ABC, []), System(ABC, [[], ["a"]]),
    TWO_OF_THREE, System(["b", "a"], [["a"]]),
]


def as_share(number):
    number = Fraction(number)
    return number.numerator, number.denominator


def random_falls(source, system, most=1000):
    """Falls of a system, in any order of the houses, with sure ones now and then."""
    falls = {}
    for name in source.sample(system.houses(), len(system.houses())):
        bottom = source.choice([1, 2, 3, 10, 997, 1000, source.randint(1, most)])
        falls[name] = as_share(Fraction(source.choice([0, bottom, source.randint(0, bottom)]), bottom))
    return falls


def plain_part(system, falls, some):
    """The chance that just these houses stand."""
    part = Fraction(1)
    for name in system.houses():
        fall = Fraction(*falls[name])
        part *= 1 - fall if name in some else fall
    return part


def plain_chance(system, falls):
    """The chance of a system, by going through all sets."""
    return sum((plain_part(system, falls, some) for some in all_sets(system.houses()) if system.decides(some)),
               Fraction(0))


def plain_turns(system):
    """In which part of all orders each house turns it, by going through all orders."""
    seen = {name: 0 for name in system.houses()}
    for order in itertools.permutations(system.houses()):
        if not system.decides([]):
            first = next((at for at in range(len(order)) if system.decides(order[:at + 1])), None)
            if first is not None:
                seen[order[first]] += 1
    return {name: as_share(Fraction(many, math.factorial(len(seen)))) for name, many in seen.items()}


def some_cases(many=60, houses=6):
    """Systems with falls, always the same ones."""
    source = random.Random(67)
    systems = some_systems(many, houses) + EDGES
    return [(system, random_falls(source, system)) for system in systems for turn in range(2)]


class Chances(Refusals):
    def test_the_chance_of_a_system(self):
        for system, falls in some_cases():
            told = chance(system, falls)
            self.assertEqual((type(told), told), (tuple, as_share(plain_chance(system, falls))))
            self.assertEqual([type(part) for part in told], [int, int])
            self.assertEqual(chance(falls=falls, system=system), told)

    def test_rows(self):
        for system, falls in some_cases():
            names = system.houses()
            right = []
            for many in range(len(names) + 1):
                sets = [some for some in itertools.combinations(names, many) if system.decides(some)]
                right.append((many, as_share(sum(plain_part(system, falls, some) for some in sets))))
            told = chance_rows(system, falls)
            self.assertEqual((type(told), told), (list, right))
            for row in told:
                self.assertEqual([type(row), type(row[0]), type(row[1])], [tuple, int, tuple])
            self.assertEqual(sum_shares([share for many, share in told]), chance(system, falls))
            self.assertEqual(chance_rows(falls=falls, system=system), right)

    def test_edges(self):
        self.assertEqual(chance(System(["a"], []), {"a": HALF}), (0, 1))
        self.assertEqual(chance(System(["a"], [[]]), {"a": (1, 1)}), (1, 1))
        self.assertEqual(chance(System(["a"], [["a"]]), {"a": (1, 1000)}), (999, 1000))
        self.assertEqual(chance(System(["a"], [["a"]]), {"a": (0, 1)}), (1, 1))
        self.assertEqual(chance(System(["a"], [["a"]]), {"a": (1, 1)}), (0, 1))
        self.assertEqual(chance(TWO_OF_THREE, {"c": HALF, "a": HALF, "b": HALF}), HALF)
        self.assertEqual(chance(TWO_OF_THREE, {"a": (0, 1), "b": (0, 1), "c": (1, 1)}), (1, 1))
        self.assertEqual(chance(TWO_OF_THREE, {"a": (1, 1), "b": (0, 1), "c": (1, 1)}), (0, 1))
        self.assertEqual(chance_rows(System(["a"], [[]]), {"a": (1, 4)}), [(0, (1, 4)), (1, (3, 4))])
        self.assertEqual(chance_rows(System(["a"], []), {"a": (1, 4)}), [(0, (0, 1)), (1, (0, 1))])
        third = {name: (1, 3) for name in ABC}
        self.assertEqual(chance_rows(TWO_OF_THREE, third), [(0, (0, 1)), (1, (0, 1)), (2, (4, 9)), (3, (8, 27))])

    def test_twelve_houses(self):
        falls = {name: (1, 1000 - at) for at, name in enumerate(TWELVE)}
        sure = math.prod(Fraction(999 - at, 1000 - at) for at in range(12))
        self.assertEqual(chance(System(TWELVE, [TWELVE]), falls), as_share(sure))
        self.assertEqual(chance(System(TWELVE, [[]]), falls), (1, 1))
        self.assertEqual(chance(System(TWELVE, []), falls), (0, 1))
        none = math.prod(Fraction(1, 1000 - at) for at in range(12))
        self.assertEqual(chance(Many(1, TWELVE).system(), falls), as_share(1 - none))
        even = {name: (1, 10) for name in TWELVE}
        right = sum(math.comb(12, many) * Fraction(9, 10)**many * Fraction(1, 10)**(12 - many) for many in range(7, 13))
        self.assertEqual(chance(Many(7, TWELVE).system(), even), as_share(right))
        self.assertEqual(len(chance_rows(Many(7, TWELVE).system(), even)), 13)
        self.assertEqual(len(matters(Many(7, TWELVE).system(), falls)), 12)


class ByHouses(Refusals):
    def test_chances_by_a_house(self):
        for system, falls in some_cases(40):
            for name in system.houses():
                right = tuple(as_share(plain_chance(system, {**falls, name: share})) for share in ((0, 1), (1, 1)))
                told = chances_by(system, falls, name)
                self.assertEqual((type(told), told), (tuple, right))
                self.assertEqual(chances_by(name=name, falls=falls, system=system), right)

    def test_what_matters(self):
        for system, falls in some_cases(40):
            names = system.houses()
            right = {}
            for name in names:
                others = [other for other in names if other != name]
                right[name] = as_share(sum(
                    plain_part(system, {**falls, name: (1, 1)}, some) for some in all_sets(others)
                    if system.decides(some + [name]) and not system.decides(some)
                ))
                stands, falls_surely = [Fraction(*share) for share in chances_by(system, falls, name)]
                self.assertEqual(right[name], as_share(stands - falls_surely))
            told = matters(system, falls)
            self.assertEqual((type(told), told, list(told)), (dict, right, names))
            self.assertEqual(list(matters(falls=falls, system=system).items()), list(right.items()))

    def test_told_cases(self):
        third = {"c": (1, 3), "b": (1, 3), "a": (1, 3)}
        self.assertEqual(chances_by(TWO_OF_THREE, third, "b"), ((8, 9), (4, 9)))
        self.assertEqual(list(matters(TWO_OF_THREE, third).items()), [("a", (4, 9)), ("b", (4, 9)), ("c", (4, 9))])
        system = System(["b", "a"], [["a"]])
        self.assertEqual(list(matters(system, {"a": HALF, "b": HALF}).items()), [("b", (0, 1)), ("a", (1, 1))])

    def test_no_houses(self):
        falls = {"a": HALF, "b": HALF, "c": HALF}
        for thing in other_things() + rows() + whole_numbers() + [name for name in texts() if name != "a"] + ["d", "A"]:
            self.refused_with(NoHouse, thing, chances_by, TWO_OF_THREE, falls, thing)
            # The falls are looked at first.
            self.refused_with(NoChance, thing, chances_by, TWO_OF_THREE, thing, thing)
        self.assertEqual(falls, {"a": HALF, "b": HALF, "c": HALF})


class Counted(unittest.TestCase):
    def test_counts(self):
        for system in some_systems(100) + EDGES:
            names = system.houses()
            right = [sum(system.decides(list(some)) for some in itertools.combinations(names, many))
                     for many in range(len(names) + 1)]
            told = counts(system)
            self.assertEqual((type(told), told), (list, right))
            self.assertTrue(all(type(many) is int for many in told))
            self.assertEqual(counts(system=system), right)

    def test_how_often_a_house_decides(self):
        for system in some_systems(100) + EDGES:
            names = system.houses()
            right = {}
            for name in names:
                others = all_sets([other for other in names if other != name])
                right[name] = sum(system.decides(some + [name]) and not system.decides(some) for some in others)
            told = decides_of(system)
            self.assertEqual((type(told), told, list(told)), (dict, right, names))
            self.assertTrue(all(type(many) is int for many in told.values()))
            self.assertEqual(decides_of(system=system), right)

    def test_turns(self):
        for system in some_systems(60, 5) + some_systems(6, 6) + EDGES:
            told = turns(system)
            self.assertEqual((type(told), told, list(told)), (dict, plain_turns(system), system.houses()))
            every = (1, 1) if system.lots() and not system.decides([]) else (0, 1)
            self.assertEqual(sum_shares(list(told.values())), every)
            self.assertEqual(turns(system=system), told)

    def test_edges(self):
        self.assertEqual(counts(System(["a"], [])), [0, 0])
        self.assertEqual(counts(System(["a"], [[]])), [1, 1])
        self.assertEqual(counts(TWO_OF_THREE), [0, 0, 3, 1])
        self.assertEqual(counts(Many(7, TWELVE).system()), [0] * 7 + [math.comb(12, many) for many in range(7, 13)])
        self.assertEqual(counts(System(TWELVE, [[]])), [math.comb(12, many) for many in range(13)])
        self.assertEqual(decides_of(System(["a"], [[]])), {"a": 0})
        self.assertEqual(decides_of(Many(7, TWELVE).system()), {name: math.comb(11, 6) for name in TWELVE})
        self.assertEqual(decides_of(TWO_OF_THREE), {"a": 2, "b": 2, "c": 2})
        self.assertEqual(turns(System(["a"], [["a"]])), {"a": (1, 1)})
        self.assertEqual(turns(System(["a"], [])), {"a": (0, 1)})
        self.assertEqual(turns(System(ABC, [[], ["a"]])), {name: (0, 1) for name in ABC})
        self.assertEqual(turns(Many(7, TWELVE).system()), {name: (1, 12) for name in TWELVE})
        self.assertEqual(turns(System(TWELVE, [])), {name: (0, 1) for name in TWELVE})
        self.assertEqual(turns(Weights(4, [("a", 3), ("b", 1), ("c", 1), ("d", 1)]).system()),
                         {"a": (3, 4), "b": (1, 12), "c": (1, 12), "d": (1, 12)})
        self.assertEqual(turns(System(TWELVE, [TWELVE[:2]]))["inn"], HALF)
        self.assertEqual(list(turns(System(["b", "a"], [["a"]])).items()), [("b", (0, 1)), ("a", (1, 1))])


class OtherSides(unittest.TestCase):
    def test_the_other_side_by_turned_falls(self):
        for system, falls in some_cases(60, 5):
            other = other_side(system)
            turned = {name: as_share(1 - Fraction(*share)) for name, share in falls.items()}
            lacking = 1 - Fraction(*chance(system, falls))
            self.assertEqual(chance(other, turned), as_share(lacking))
            self.assertEqual(matters(other, turned), matters(system, falls))
            self.assertEqual(decides_of(other), decides_of(system))
            self.assertEqual(turns(other), turns(system))
            many = len(system.houses())
            every = [one + two for one, two in zip(counts(system), counts(other)[::-1])]
            self.assertEqual(every, [math.comb(many, size) for size in range(many + 1)])

    def test_twelve_houses(self):
        system = Many(5, TWELVE).system()
        falls = {name: as_share(Fraction(at, 17)) for at, name in enumerate(TWELVE)}
        turned = {name: as_share(Fraction(17 - at, 17)) for at, name in enumerate(TWELVE)}
        self.assertEqual(sum_shares([chance(system, falls), chance(other_side(system), turned)]), (1, 1))
        self.assertEqual(matters(system, falls), matters(other_side(system), turned))

    def test_the_chance_by_a_house_that_stands_or_falls(self):
        for system, falls in some_cases(60, 5):
            for name in system.houses():
                stands, down = [Fraction(*share) for share in chances_by(system, falls, name)]
                fall = Fraction(*falls[name])
                self.assertEqual(chance(system, falls), as_share((1 - fall) * stands + fall * down))


class Refused(Refusals):
    def asks(self, system):
        yield lambda falls: chance(system, falls)
        yield lambda falls: chance_rows(system, falls)
        yield lambda falls: matters(system, falls)
        yield lambda falls: chances_by(system, falls, system.houses()[0])
        yield lambda falls: chances_by(system, falls, None)

    def test_no_falls(self):
        good = {"a": HALF, "b": (1, 3), "c": (0, 1)}
        for bad in (
            {}, {"a": HALF, "b": HALF}, {**good, "d": HALF}, {**good, 0: HALF}, {"a": HALF, "b": HALF, "d": HALF},
            {**good, "a": (1, 1001)}, {**good, "a": (1000, 1001)}, {**good, "a": (2, 4)}, {**good, "a": (3, 2)},
            {**good, "a": (2, 1)}, {**good, "a": (0, 2)}, {**good, "a": [1, 2]}, {**good, "a": "1/2"}, {**good, "a": 1},
            {**good, "a": True}, {**good, "a": (True, 1)}, {**good, "a": (0, True)}, {**good, "a": None},
            {**good, "a": (1, 2, 3)}, {**good, "a": (-1, 2)}, {**good, "a": (1, 0)},
            {**good, "a": (10**399, 10**399 + 1)}, {**good, "c": (1, 1002)},
            list(good.items()), list(good), tuple(good.values()), (good,), [good], None,
            {("a",): HALF, "b": HALF, "c": HALF}, {None: HALF, "b": HALF, "c": HALF}, {**good, "a": good},
        ):
            for ask in self.asks(TWO_OF_THREE):
                self.refused_with(NoChance, bad, ask, bad)
        for falls in (good, {"c": (0, 1), "b": (1, 3), "a": HALF}, {**good, "a": (999, 1000)}, {**good, "a": (1, 1)}):
            chance(TWO_OF_THREE, falls)

    def test_any_thing(self):
        for system in (TWO_OF_THREE, System(ABC, []), System(["a"], [[]])):
            for thing in other_things() + rows() + texts() + whole_numbers():
                for ask in self.asks(system):
                    self.refused_with(NoChance, thing, ask, thing)
                falls = {name: HALF for name in system.houses()}
                falls["a"] = thing
                for ask in self.asks(system):
                    self.refused_with(NoChance, falls, ask, falls)

    def test_things_that_are_nearly_right(self):
        source = random.Random(71)
        seen = {True: 0, False: 0}
        for system in some_systems(10, 3) + EDGES:
            for falls in nearly(random_falls(source, system, 9)):
                good = type(falls) is dict and set(falls) == set(system.houses()) and all(
                    type(share) is tuple and [type(part) for part in share] == [int, int] and share[1] > 0
                    and as_share(Fraction(*share)) == share and 0 <= share[0] <= share[1] <= 1000
                    for share in falls.values()
                )
                seen[good] += 1
                if good:
                    self.assertEqual(chance(system, falls), as_share(plain_chance(system, falls)))
                else:
                    self.refused_with(NoChance, falls, chance, system, falls)
        self.assertGreater(seen[True], 10)
        self.assertGreater(seen[False], 300)

    def test_nothing_is_changed_and_lists_are_new(self):
        falls = {"c": HALF, "a": (1, 3), "b": (0, 1)}
        before = copy.deepcopy(list(falls.items()))
        right = [chance_rows(TWO_OF_THREE, falls), matters(TWO_OF_THREE, falls), counts(TWO_OF_THREE),
                 decides_of(TWO_OF_THREE), turns(TWO_OF_THREE)]
        saved = copy.deepcopy(right)
        chances_by(TWO_OF_THREE, falls, "a")
        for told in right:
            told.clear()
        self.assertEqual(list(falls.items()), before)
        self.assertEqual([chance_rows(TWO_OF_THREE, falls), matters(TWO_OF_THREE, falls), counts(TWO_OF_THREE),
                          decides_of(TWO_OF_THREE), turns(TWO_OF_THREE)], saved)


if __name__ == "__main__":
    unittest.main()
