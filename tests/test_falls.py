"""Promises [4], [7], [8], [9] and [60] to [66]: falls of houses."""

import copy
import itertools
import math
import unittest

from alwaysmeet.errors import NoHouse, NoneStands, NoSet, Twice
from alwaysmeet.falls import (
    fall_counts, fall_paper, falling, last_hopes, least_falls, may_fall, more_may_fall, shows_fall,
)
from alwaysmeet.otherside import other_side
from alwaysmeet.plans import Many
from alwaysmeet.systems import System

from things import TWELVE, Refusals, all_sets, other_things, rows, some_systems, texts, whole_numbers

ABC = ["a", "b", "c"]
TWO_OF_THREE = Many(2, ABC).system()
EDGES = [
    System(["a"], []), System(["a"], [[]]), System(["a"], [["a"]]), System(TWELVE, []), System(TWELVE, [[]]),
    System(TWELVE, [TWELVE]), System(TWELVE, [[name] for name in TWELVE]), Many(7, TWELVE).system(),
    Many(6, TWELVE).system(), TWO_OF_THREE, System(ABC, [[], ["a"]]),
]


def stands(system, fallen):
    """Whether a lot stands, looked at plainly."""
    return any(not set(lot) & set(fallen) for lot in system.lots())


def sets_of(names, many):
    return [list(some) for some in itertools.combinations(names, many)]


def plain_may_fall(system, fallen=()):
    """How many more may fall, found by going through all choices."""
    rest = [name for name in system.houses() if name not in fallen]
    good = [
        many for many in range(len(rest) + 1)
        if all(stands(system, list(fallen) + some) for some in sets_of(rest, many))
    ]
    return max(good, default=-1)


def plain_paper(system):
    names, number = system.houses(), plain_may_fall(system)
    rows_of_paper = []
    if number >= 0:
        for some in sets_of(names, number):
            rows_of_paper.append((some, next(lot for lot in system.lots() if not set(lot) & set(some))))
    return number, rows_of_paper, next((some for some in sets_of(names, number + 1) if not stands(system, some)), None)


class HowMany(unittest.TestCase):
    def test_how_many_may_fall(self):
        for system in some_systems(150):
            told = may_fall(system)
            self.assertEqual((type(told), told), (int, plain_may_fall(system)))
            self.assertEqual(may_fall(system=system), told)

    def test_edges(self):
        right = [-1, 1, 0, -1, 12, 0, 11, 5, 6, 1, 3]
        self.assertEqual([may_fall(system) for system in EDGES], right)

    def test_papers(self):
        for system in some_systems(150):
            paper = fall_paper(system)
            self.assertEqual((type(paper), paper), (tuple, plain_paper(system)))
            self.assertEqual([type(part) for part in paper[:2]], [int, list])
            for row in paper[1]:
                self.assertEqual([type(row), type(row[0]), type(row[1])], [tuple, list, list])
            self.assertIs(shows_fall(system, paper), True)

    def test_papers_at_the_edges(self):
        self.assertEqual(fall_paper(System(["a"], [])), (-1, [], []))
        self.assertEqual(fall_paper(System(TWELVE, [])), (-1, [], []))
        self.assertEqual(fall_paper(System(["a"], [[]])), (1, [(["a"], [])], None))
        self.assertEqual(fall_paper(System(TWELVE, [[]])), (12, [(TWELVE, [])], None))
        self.assertEqual(fall_paper(System(["a"], [["a"]])), (0, [([], ["a"])], ["a"]))
        self.assertEqual(fall_paper(system=TWO_OF_THREE), (
            1, [(["a"], ["b", "c"]), (["b"], ["a", "c"]), (["c"], ["a", "b"])], ["a", "b"],
        ))
        number, told, fallen = fall_paper(Many(6, TWELVE).system())
        self.assertEqual((number, len(told), fallen), (6, 924, TWELVE[:7]))
        self.assertEqual(told[0], (TWELVE[:6], TWELVE[6:]))
        for system in EDGES:
            if len(system.houses()) < 12:
                self.assertEqual(fall_paper(system), plain_paper(system))
            self.assertIs(shows_fall(system, fall_paper(system)), True)

    def test_the_least_falls(self):
        for system in some_systems(150):
            many = plain_may_fall(system) + 1
            right = [some for some in sets_of(system.houses(), many) if not stands(system, some)]
            self.assertEqual(least_falls(system), right)
            other = other_side(system).lots()
            self.assertEqual(right, [lot for lot in other if len(lot) == len(other[0])])

    def test_the_least_falls_at_the_edges(self):
        self.assertEqual(least_falls(System(["a"], [])), [[]])
        self.assertEqual(least_falls(System(["a"], [[]])), [])
        self.assertEqual(least_falls(System(TWELVE, [TWELVE])), [[name] for name in TWELVE])
        self.assertEqual(least_falls(system=TWO_OF_THREE), [["a", "b"], ["a", "c"], ["b", "c"]])
        self.assertEqual(least_falls(Many(7, TWELVE).system()), sets_of(TWELVE, 6))
        self.assertEqual(least_falls(System(ABC, [["a", "b"], ["b", "c"]])), [["b"]])

    def test_counts(self):
        for system in some_systems(100) + EDGES[:6]:
            names = system.houses()
            told = fall_counts(system)
            self.assertEqual((type(told), len(told)), (list, len(names) + 1))
            self.assertTrue(all(type(row) is tuple and [type(many) for many in row] == [int, int] for row in told))
            every = [math.comb(len(names), many) for many in range(len(names) + 1)]
            self.assertEqual([leave + none for leave, none in told], every)
            if len(names) < 12:
                leave = [sum(stands(system, some) for some in sets_of(names, many)) for many in range(len(names) + 1)]
                self.assertEqual([row[0] for row in told], leave)

    def test_counts_at_the_edges(self):
        self.assertEqual(fall_counts(System(["a"], [])), [(0, 1), (0, 1)])
        self.assertEqual(fall_counts(System(["a"], [[]])), [(1, 0), (1, 0)])
        self.assertEqual(fall_counts(system=TWO_OF_THREE), [(1, 0), (3, 0), (0, 3), (0, 1)])
        self.assertEqual(fall_counts(System(TWELVE, [["mill"]]))[1], (11, 1))


class Shown(unittest.TestCase):
    def nearly(self, paper):
        """Things that are nearly the paper."""
        number, told, fallen = paper
        yield list(paper)
        yield paper[:2]
        yield paper + (None,)
        yield (number, tuple(told), fallen)
        yield (number + 1, told, fallen)
        yield (number - 1, told, fallen)
        yield (str(number), told, fallen)
        yield (number, told, [] if fallen is None else None)
        yield (told, number, fallen)
        yield (number, told + [(["a"], ["b"])], fallen)
        yield (number, None, fallen)
        yield {"paper": paper}
        if number in (0, 1):
            yield (number == 1, told, fallen)
        if fallen is not None:
            yield (number, told, tuple(fallen))
            yield (number, told, fallen + fallen[:1] + ["a"])
            yield (number, told, " ".join(fallen))
        if fallen is not None and len(fallen) > 1:
            yield (number, told, fallen[::-1])
            yield (number, told, fallen[1:])
        for at in range(len(told)):
            some, lot = told[at]
            yield (number, told[:at] + told[at + 1:], fallen)
            yield (number, told[:at + 1] + told[at:], fallen)
            for row in (
                [some, lot], (tuple(some), lot), (some, tuple(lot)), (lot, some, 0), (some,), (some, None), None,
                (some, lot + ["a"]), (some + some[:1] + ["x"], lot),
            ):
                yield (number, told[:at] + [row] + told[at + 1:], fallen)
            if len(lot) > 1:
                yield (number, told[:at] + [(some, lot[::-1])] + told[at + 1:], fallen)
                yield (number, told[:at] + [(some, lot[1:])] + told[at + 1:], fallen)
            if len(some) > 1:
                yield (number, told[:at] + [(some[::-1], lot)] + told[at + 1:], fallen)
            if at > 0:
                yield (number, told[:at - 1] + [told[at], told[at - 1]] + told[at + 1:], fallen)

    def test_things_that_are_nearly_right(self):
        for system in some_systems(25, 4) + [TWO_OF_THREE]:
            paper = fall_paper(system)
            for thing in self.nearly(paper):
                self.assertIs(shows_fall(system, thing), False, (system.told(), thing))
            self.assertIs(shows_fall(system, copy.deepcopy(paper)), True)
            self.assertIs(shows_fall(thing=paper, system=system), True)

    def test_another_lot_or_another_set_is_not_the_paper(self):
        system = System(ABC, [["a"], ["b"]])
        self.assertEqual(fall_paper(system), (1, [(["a"], ["b"]), (["b"], ["a"]), (["c"], ["a"])], ["a", "b"]))
        self.assertIs(shows_fall(system, (1, [(["a"], ["b"]), (["b"], ["a"]), (["c"], ["b"])], ["a", "b"])), False)
        self.assertIs(shows_fall(TWO_OF_THREE, (1, fall_paper(TWO_OF_THREE)[1], ["a", "c"])), False)

    def test_papers_of_another_system(self):
        systems = some_systems(40, 4)
        for one, other in itertools.product(systems, repeat=2):
            self.assertIs(shows_fall(one, fall_paper(other)), fall_paper(one) == fall_paper(other))

    def test_truths_for_numbers(self):
        system = System(["a"], [[]])
        self.assertIs(shows_fall(system, (1, [(["a"], [])], None)), True)
        self.assertIs(shows_fall(system, (True, [(["a"], [])], None)), False)
        system = System(["a"], [["a"]])
        self.assertIs(shows_fall(system, (0, [([], ["a"])], ["a"])), True)
        self.assertIs(shows_fall(system, (False, [([], ["a"])], ["a"])), False)

    def test_any_thing(self):
        for system in (TWO_OF_THREE, System(ABC, []), System(ABC, [[]])):
            number, told, fallen = fall_paper(system)
            for thing in other_things() + rows() + texts() + whole_numbers():
                self.assertIs(shows_fall(system, thing), False)
                if thing != number or isinstance(thing, bool):
                    self.assertIs(shows_fall(system, (thing, told, fallen)), False)
                if thing != told:
                    self.assertIs(shows_fall(system, (number, thing, fallen)), False)
                if thing != fallen:
                    self.assertIs(shows_fall(system, (number, told, thing)), False)


class OneByOne(Refusals):
    def test_falling(self):
        for system in some_systems(40, 4):
            for many in range(len(system.houses()) + 1):
                for order in itertools.permutations(system.houses(), many):
                    right = [system.standing(order[:at]) for at in range(many + 1)]
                    self.assertEqual(falling(system, order), right)
                    self.assertEqual(falling(system, list(order)), right)

    def test_falling_in_told_cases(self):
        self.assertEqual(falling(TWO_OF_THREE, ["c", "a"]), [["a", "b"], ["a", "b"], None])
        self.assertEqual(falling(TWO_OF_THREE, ["a", "c"]), [["a", "b"], ["b", "c"], None])
        self.assertEqual(falling(TWO_OF_THREE, []), [["a", "b"]])
        self.assertEqual(falling(System(ABC, []), ()), [None])
        self.assertEqual(falling(System(ABC, [[]]), ABC), [[]] * 4)
        self.assertEqual(falling(order=("a",), system=TWO_OF_THREE), [["a", "b"], ["b", "c"]])
        self.assertEqual(falling(System(TWELVE, [TWELVE[-1:]]), TWELVE), [TWELVE[-1:]] * 12 + [None])

    def test_last_hopes(self):
        for system in some_systems(100, 5):
            for fallen in all_sets(system.houses()):
                if stands(system, fallen):
                    rest = [name for name in system.houses() if name not in fallen]
                    right = [name for name in rest if not stands(system, fallen + [name])]
                    standing = [set(lot) for lot in system.lots() if not set(lot) & set(fallen)]
                    self.assertEqual(right, [name for name in rest if all(name in lot for lot in standing)])
                    told = last_hopes(system, tuple(fallen[::-1]))
                    self.assertEqual((type(told), told), (list, right))
                    self.assertEqual(last_hopes(system, fallen), right)
                else:
                    self.assertEqual(self.refused(NoneStands, last_hopes, system, fallen).kind, "lots")

    def test_last_hopes_at_the_edges(self):
        self.assertEqual(last_hopes(System(ABC, [[]]), ABC), [])
        self.assertEqual(last_hopes(System(ABC, [[], ABC]), []), [])
        self.assertEqual(last_hopes(System(TWELVE, [TWELVE]), []), TWELVE)
        self.assertEqual(last_hopes(fallen=["b"], system=TWO_OF_THREE), ["a", "c"])
        self.assertEqual(last_hopes(TWO_OF_THREE, []), [])
        empty = System(ABC, [])
        for system, fallen in ((empty, []), (empty, ABC), (TWO_OF_THREE, ABC), (TWO_OF_THREE, ["c", "a"])):
            self.assertEqual(self.refused(NoneStands, last_hopes, system, fallen).kind, "lots")

    def test_how_many_more_may_fall(self):
        for system in some_systems(60, 5):
            names = system.houses()
            self.assertEqual(more_may_fall(system, []), may_fall(system))
            for fallen in all_sets(names):
                told = more_may_fall(system, fallen)
                self.assertEqual((type(told), told), (int, plain_may_fall(system, fallen)))
                self.assertEqual(more_may_fall(system, tuple(fallen[::-1])), told)
                for name in [name for name in names if name not in fallen]:
                    self.assertIn(more_may_fall(system, fallen + [name]), (told, told - 1) if told >= 0 else (-1,))

    def test_how_many_more_at_the_edges(self):
        self.assertEqual(more_may_fall(System(ABC, []), []), -1)
        self.assertEqual(more_may_fall(System(ABC, []), ABC), -1)
        self.assertEqual(more_may_fall(System(ABC, [[]]), []), 3)
        self.assertEqual(more_may_fall(System(ABC, [[]]), ["b"]), 2)
        self.assertEqual(more_may_fall(System(ABC, [[]]), ABC), 0)
        self.assertEqual(more_may_fall(System(ABC, [["a"]]), ["b", "c"]), 0)
        self.assertEqual(more_may_fall(fallen=["a"], system=TWO_OF_THREE), 0)
        self.assertEqual(more_may_fall(Many(6, TWELVE).system(), TWELVE[:4]), 2)
        self.assertEqual(more_may_fall(Many(6, TWELVE).system(), TWELVE[:7]), -1)

    def test_refused_as_a_set(self):
        for system in (TWO_OF_THREE, System(ABC, []), System(ABC, [[]])):
            for ask in (falling, last_hopes, more_may_fall):
                for found in other_things() + texts() + whole_numbers():
                    self.refused_with(NoSet, found, ask, system, found)
                for found in ["x", "", "lots"] + other_things() + rows() + whole_numbers():
                    self.refused_with(NoHouse, found, ask, system, ["a", found, "a"])
                    self.refused_with(NoHouse, found, ask, system, ABC + [found])
                again = "".join(["b"])
                self.refused_with(Twice, again, ask, system, ("b", "a", "c", again, "x"))

    def test_nothing_is_changed_and_lists_are_new(self):
        system, order = System(ABC, [["a", "b"], ["c"]]), ["c", "a"]
        falling(system, order)[0].clear()
        last_hopes(system, ["c"]).clear()
        least_falls(system)[0].clear()
        fall_paper(system)[1][0][1].clear()
        fall_paper(system)[2].clear()
        fall_counts(system).clear()
        more_may_fall(system, order)
        self.assertEqual(order, ["c", "a"])
        self.assertEqual(system.lots(), [["c"], ["a", "b"]])
        self.assertEqual(falling(system, order), [["c"], ["a", "b"], None])
        self.assertEqual(last_hopes(system, ["c"]), ["a", "b"])
        self.assertEqual(least_falls(system), [["a", "c"], ["b", "c"]])
        self.assertEqual(fall_paper(system), (1, [(["a"], ["c"]), (["b"], ["c"]), (["c"], ["a", "b"])], ["a", "c"]))

    def test_the_same_lot_is_told_as_lists_of_its_own(self):
        one, other = falling(System(ABC, [["a"]]), ["b"])
        one.clear()
        self.assertEqual(other, ["a"])


if __name__ == "__main__":
    unittest.main()
