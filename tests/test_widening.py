"""Promises [7], [8], [9] and [54] to [57]: spare sets and widened systems."""

import copy
import random
import unittest

from alwaysmeet.errors import Apart
from alwaysmeet.otherside import is_own_side
from alwaysmeet.plans import Many
from alwaysmeet.systems import System
from alwaysmeet.widening import shows_widened, spare_set, widened

from things import TWELVE, Refusals, all_sets, other_things, rows, some_systems, texts, whole_numbers

ABC = ["a", "b", "c"]


def plain_least(lots):
    return [lot for lot in lots if not any(set(one) < set(lot) for one in lots)]


def plain_spares(names, lots):
    """All spare sets, in order, looked at plainly."""
    return [
        some for some in all_sets(names)
        if some and all(set(lot) & set(some) for lot in lots) and not any(set(lot) <= set(some) for lot in lots)
    ]


def plain_widened(names, lots, choose):
    """The lots and the sets put in, which are chosen each time among the spare ones."""
    lots, sets = plain_least(lots), []
    while plain_spares(names, lots):
        sets.append(choose(plain_spares(names, lots)))
        lots = plain_least(lots + [sets[-1]])
    return lots, sets


def in_order(names, lots):
    return [some for some in all_sets(names) if some in lots]


def meeting_systems(many=60, houses=5):
    """Systems whose lots meet: those of some that share a house with all ahead of them."""
    told = []
    for system in some_systems(many * 2, houses):
        lots = []
        for lot in system.lots()[::-1]:
            if lot and all(set(lot) & set(one) for one in lots):
                lots.append(lot)
        told.append(System(system.houses(), lots))
    return told


class Spare(unittest.TestCase):
    def test_the_first_one(self):
        for system in some_systems(150) + meeting_systems():
            spares = plain_spares(system.houses(), system.lots())
            told = spare_set(system)
            self.assertEqual(told, spares[0] if spares else None)
            self.assertIn(type(told), (list, type(None)))

    def test_none_is_spare_just_where_it_is_its_own_other_side(self):
        seen = [0, 0]
        for system in meeting_systems(150):
            seen[is_own_side(system)] += 1
            self.assertIs(spare_set(system) is None, is_own_side(system))
        self.assertGreater(min(seen), 10)

    def test_edges(self):
        self.assertEqual(spare_set(System(ABC, [])), ["a"])
        self.assertIsNone(spare_set(System(ABC, [[]])))
        self.assertIsNone(spare_set(System(["a"], [["a"]])))
        self.assertIsNone(spare_set(Many(2, ABC).system()))
        self.assertEqual(spare_set(System(ABC, [ABC])), ["a"])
        self.assertEqual(spare_set(System(["b", "a"], [["a", "b"]])), ["b"])
        self.assertEqual(spare_set(Many(7, TWELVE).system()), TWELVE[:6])
        self.assertIsNone(spare_set(System(ABC, [["a"], ["b"], ["c"]])))
        self.assertEqual(spare_set(system=System(TWELVE, [])), ["mill"])


class Widened(Refusals):
    def test_by_the_first_spare_sets(self):
        for system in meeting_systems():
            names, lots = system.houses(), system.lots()
            right, sets = plain_widened(names, lots, lambda spares: spares[0])
            told = widened(system)
            self.assertEqual((type(told), len(told)), (tuple, 2))
            self.assertIs(type(told[0]), System)
            self.assertEqual(told[0].houses(), names)
            self.assertEqual(told[0].lots(), in_order(names, right))
            self.assertEqual((type(told[1]), told[1]), (list, sets))
            self.assertEqual((system.houses(), system.lots()), (names, lots))

    def test_what_comes_of_it(self):
        for system in meeting_systems(80, 6):
            wide, sets = widened(system)
            self.assertTrue(wide.meets())
            self.assertTrue(wide.is_least())
            self.assertTrue(is_own_side(wide))
            self.assertIsNone(spare_set(wide))
            names = system.houses()
            for some in all_sets(names):
                self.assertTrue(wide.decides(some) or not system.decides(some))
                self.assertNotEqual(wide.decides(some), wide.decides([name for name in names if name not in some]))
            self.assertEqual(widened(wide)[0].told(), wide.told())
            self.assertEqual(widened(wide)[1], [])

    def test_edges(self):
        wide, sets = widened(System(ABC, []))
        self.assertEqual((wide.lots(), sets), ([["a"]], [["a"]]))
        wide, sets = widened(System(ABC, [["a", "b"], ["b", "c"], ["a", "c"], ABC]))
        self.assertEqual((wide.lots(), sets), ([["a", "b"], ["a", "c"], ["b", "c"]], []))
        wide, sets = widened(system=System(["b", "a"], [["a", "b"]]))
        self.assertEqual((wide.told(), sets), ((("b", "a"), (("b",),)), [["b"]]))
        wide, sets = widened(System(TWELVE, []))
        self.assertEqual((wide.lots(), sets), ([["mill"]], [["mill"]]))

    def test_more_than_half_of_twelve(self):
        system = Many(7, TWELVE).system()
        wide, sets = widened(system)
        self.assertEqual(sets, [some for some in all_sets(TWELVE) if len(some) == 6 and some[0] == "mill"])
        self.assertTrue(is_own_side(wide))
        self.assertIs(shows_widened(system, sets), True)
        self.assertIs(shows_widened(system, sets[:-1]), False)

    def test_lists_are_new_ones_each_time(self):
        system = System(ABC, [ABC])
        spare_set(system).clear()
        widened(system)[1][0].clear()
        widened(system)[1].clear()
        self.assertEqual(spare_set(system), ["a"])
        self.assertEqual(widened(system)[1], [["a"]])

    def test_systems_that_do_not_meet(self):
        seen = 0
        edges = [System(ABC, [[]]), System(ABC, [[], ["a"]]), System(ABC, [["a"], ["b", "c"]])]
        for system in some_systems(100) + edges:
            pair = system.apart()
            if pair is not None:
                seen += 1
                for ask in (widened, lambda one: shows_widened(one, []), lambda one: shows_widened(one, None)):
                    refusal = self.refused(Apart, ask, system)
                    self.assertEqual((refusal.one, refusal.other), pair)
                    self.assertEqual((type(refusal.one), type(refusal.other)), (list, list))
        self.assertGreater(seen, 30)
        refusal = self.refused(Apart, widened, System(ABC, [["b"], []]))
        self.assertEqual((refusal.one, refusal.other), ([], []))


class Shown(unittest.TestCase):
    def test_any_spare_sets(self):
        source = random.Random(6)
        for system in meeting_systems():
            for turn in range(3):
                sets = plain_widened(system.houses(), system.lots(), source.choice)[1]
                self.assertIs(shows_widened(system, sets), True)
                self.assertIs(shows_widened(thing=copy.deepcopy(sets), system=system), True)
            self.assertIs(shows_widened(system, widened(system)[1]), True)

    def test_all_rows_of_two_sets(self):
        for system in meeting_systems(20, 3):
            names, sets = system.houses(), all_sets(system.houses())
            for row in [[]] + [[one] for one in sets] + [[one, other] for one in sets for other in sets]:
                lots, right = system.lots(), True
                for some in row:
                    right = right and some in plain_spares(names, lots)
                    lots = lots + [some]
                right = right and not plain_spares(names, lots)
                self.assertIs(shows_widened(system, row), right, (system.told(), row))

    def test_things_that_are_nearly_right(self):
        system = System(["a", "b", "c", "d"], [["a", "b", "c"], ["a", "b", "d"], ["a", "c", "d"], ["b", "c", "d"]])
        good = [["a", "b"], ["a", "c"], ["b", "c"]]
        self.assertIs(shows_widened(system, good), True)
        self.assertIs(shows_widened(system, good[::-1]), True)
        for thing in (
            tuple(good), [tuple(some) for some in good], good[:2], good[1:], good + [["c", "d"]], good + [good[0]],
            [good[0]] + good, good + [[]], [[]] + good, [["b", "a"], ["a", "c"], ["b", "c"]], good + [None],
            [["a", "a", "b"], ["a", "c"], ["b", "c"]], [["a", "x"], ["a", "c"], ["b", "c"]], [good], good + [["a"]],
            [["a", "b"], ["a", "c"], ["c", "d"]], [["a"], ["a", "b"]], (good, None), {"a": good}, ["ab", "ac", "bc"],
            [["a", "b"], ["a", "c"], [True]], [["a", "b"], ["a", "c"], [["b", "c"]]], [["a", "b", "c"]] + good,
        ):
            self.assertIs(shows_widened(system, thing), False, thing)
        self.assertIs(shows_widened(Many(2, ABC).system(), good), False)
        self.assertIs(shows_widened(Many(2, ABC).system(), []), True)
        self.assertIs(shows_widened(Many(2, ABC).system(), ()), False)
        self.assertIs(shows_widened(Many(2, ABC).system(), [ABC]), False)

    def test_any_thing(self):
        for system in (System(ABC, [ABC]), System(ABC, [])):
            for thing in other_things() + rows() + texts() + whole_numbers():
                self.assertIs(shows_widened(system, thing), False)
                self.assertIs(shows_widened(system, [thing]), thing == ["a"] and type(thing) is list)
                self.assertIs(shows_widened(system, [["b"], thing]), False)

    def test_nothing_is_changed(self):
        system, thing = System(ABC, [ABC]), [["a"]]
        self.assertIs(shows_widened(system, thing), True)
        self.assertEqual((system.lots(), thing), ([ABC], [["a"]]))


if __name__ == "__main__":
    unittest.main()
