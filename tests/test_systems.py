"""Promises [4], [7], [8], [9] and [20] to [27]: systems of lots."""

import copy
import itertools
import random
import unittest

from alwaysmeet.errors import NoHouse, NoHouses, NoLots, NoNumber, NoSet, Twice
from alwaysmeet.houses import Houses, in_order
from alwaysmeet.systems import System, system_by

from things import (
    TWELVE, Refusals, all_sets, least_sets, other_things, rows, some_systems, texts, whole_numbers,
)

ABC = ["a", "b", "c"]


def has_lot(lots, some):
    """Whether a lot is within the set, looked at plainly."""
    return any(set(lot) <= set(some) for lot in lots)


def thousand():
    """A thousand lots of twelve houses."""
    return all_sets(TWELVE)[1:1001]


class Making(Refusals):
    def test_lots_in_any_order(self):
        lots = [["c", "a"], [], ("c", "b", "a"), ["b"], ("c", "b")]
        for row in itertools.permutations(lots):
            for kind in (list, tuple):
                system = System(ABC, kind(row))
                self.assertEqual(system.houses(), ABC)
                self.assertEqual(system.lots(), [[], ["b"], ["a", "c"], ["b", "c"], ["a", "b", "c"]])

    def test_the_order_of_the_houses_is_the_told_one(self):
        system = System(("c", "a", "b"), [["a", "b"], ["b", "c"], ["b"]])
        self.assertEqual(system.houses(), ["c", "a", "b"])
        self.assertEqual(system.lots(), [["b"], ["c", "b"], ["a", "b"]])

    def test_edges(self):
        self.assertEqual(System(["a"], []).lots(), [])
        self.assertEqual(System(["a"], ()).lots(), [])
        self.assertEqual(System(["a"], [[]]).lots(), [[]])
        self.assertEqual(System(["a"], [["a"], ()]).lots(), [[], ["a"]])
        self.assertEqual(System(TWELVE, [TWELVE[::-1]]).lots(), [TWELVE])
        self.assertEqual(System(houses=["a"], lots=[]).houses(), ["a"])

    def test_a_thousand_lots_and_one_more(self):
        lots = thousand()
        self.assertEqual(System(TWELVE, lots[::-1]).lots(), lots)
        self.assertEqual(System(TWELVE, tuple(lots)).lots(), lots)
        for more in (lots + [TWELVE], tuple(lots) + ((),), [[]] * 1001, [None] * 1001, [0] * 4100):
            self.refused_with(NoLots, more, System, TWELVE, more)
        self.refused_with(Twice, lots[0], System, TWELVE, [lots[0][:]] + lots[:999])

    def test_what_are_no_houses(self):
        wrong = [[], TWELVE + ["more"], ["a", "a"], ["lots"], ("A",), [["a"]]]
        for found in wrong + other_things() + texts() + whole_numbers():
            self.refused_with(NoHouses, found, System, found, [])
            self.refused_with(NoHouses, found, System, found, None)

    def test_what_are_no_lots(self):
        for found in other_things() + texts() + whole_numbers():
            self.refused_with(NoLots, found, System, ABC, found)

    def test_what_is_no_set(self):
        for found in other_things() + texts() + whole_numbers():
            for lots in ([found], (found, ["a"]), [["a"], found], (["a"], ("b",), found, None)):
                self.refused_with(NoSet, found, System, ABC, lots)

    def test_what_is_no_house_in_a_lot(self):
        for found in ["d", "A", "lots", "", 0] + other_things() + rows() + whole_numbers():
            for lots in ([[found]], [["a", found]], [["a"], ("b", found, "b")], ([], [found], ["a", "a"])):
                self.refused_with(NoHouse, found, System, ABC, lots)

    def test_a_house_twice_in_a_lot(self):
        again = "".join(["a"])
        self.refused_with(Twice, again, System, ABC, [["b", "a", again]])
        self.refused_with(Twice, again, System, ABC, [["b"], ("a", again, "d")])

    def test_a_lot_twice_in_another_order(self):
        for one, other in ((["a", "b"], ["b", "a"]), (["a", "b"], ("a", "b")), ([], ()), ([], []), (ABC, ABC[::-1])):
            self.refused_with(Twice, other, System, ABC, [one, ["c"], other])
            self.refused_with(Twice, other, System, ABC, (one, other, ["d"], None))

    def test_the_first_refusal_lot_by_lot(self):
        twice = ["b", "a"]
        self.refused_with(Twice, twice, System, ABC, [["a", "b"], twice, ["d"], None])
        self.refused_with(NoHouse, "d", System, ABC, [["a", "b"], ["d"], twice])
        self.refused_with(NoSet, None, System, ABC, [["a"], None, ["a"]])
        self.refused_with(Twice, "a", System, ABC, [["a", "b"], ["b", "a", "a"]])


class Telling(unittest.TestCase):
    def test_told(self):
        self.assertEqual(System(["b", "a"], [["a"], ("a", "b"), []]).told(), (("b", "a"), ((), ("a",), ("b", "a"))))
        self.assertEqual(System(["a"], []).told(), (("a",), ()))
        for system in some_systems():
            told = system.told()
            self.assertEqual(told, (tuple(system.houses()), tuple(tuple(lot) for lot in system.lots())))
            self.assertEqual([type(part) for part in told], [tuple, tuple])
            self.assertEqual(System(told[0], told[1]).told(), told)

    def test_sets_are_lists_in_order(self):
        for system in some_systems():
            ground = Houses(system.houses())
            self.assertTrue(all(type(lot) is list for lot in system.lots()))
            masks = [ground.mask(lot) for lot in system.lots()]
            self.assertEqual([ground.set_of(mask) for mask in in_order(masks)], system.lots())

    def test_what_is_handed_in_is_kept_as_a_copy_and_not_changed(self):
        houses, lots = ["a", "b"], [["b", "a"], ["b"]]
        system = System(houses, lots)
        self.assertEqual((houses, lots), (["a", "b"], [["b", "a"], ["b"]]))
        houses.append("c")
        lots[0].append("c")
        lots[1].clear()
        lots.append([])
        self.assertEqual(system.told(), (("a", "b"), (("b",), ("a", "b"))))
        self.assertIs(system.decides([]), False)

    def test_lists_are_new_ones_each_time(self):
        system = System(["a", "b"], [["a"], ["b"]])
        for ask in (system.houses, system.lots, system.table):
            told = ask()
            was = copy.deepcopy(told)
            told.clear()
            self.assertEqual(ask(), was)
        system.lots()[0].append("b")
        for ask in (lambda: system.within(["a"]), lambda: system.standing(["b"])):
            ask().clear()
            self.assertEqual(ask(), ["a"])
        system.apart()[0].clear()
        self.assertEqual(system.apart(), (["a"], ["b"]))
        self.assertEqual(system.lots(), [["a"], ["b"]])

    def test_the_two_that_are_told_twice_are_two_lists(self):
        one, other = System(["a"], [[]]).apart()
        one.append("a")
        self.assertEqual(other, [])


class Deciding(Refusals):
    def test_all_sets(self):
        for system in some_systems():
            lots = system.lots()
            for some in all_sets(system.houses()):
                first = next((lot for lot in lots if set(lot) <= set(some)), None)
                for told in (some, tuple(some[::-1])):
                    self.assertIs(system.decides(told), first is not None)
                    self.assertEqual(system.within(told), first)

    def test_the_set_without_houses(self):
        self.assertIs(System(ABC, [[]]).decides([]), True)
        self.assertEqual(System(ABC, [[], ["a"]]).within(ABC), [])
        self.assertIs(System(ABC, []).decides(ABC), False)
        self.assertIsNone(System(ABC, []).within(ABC))
        self.assertIs(System(ABC, [["a"]]).decides(()), False)

    def test_standing(self):
        for system in some_systems():
            for fallen in all_sets(system.houses()):
                first = next((lot for lot in system.lots() if not set(lot) & set(fallen)), None)
                self.assertEqual(system.standing(fallen), first)
                self.assertEqual(system.standing(tuple(fallen[::-1])), first)
        self.assertEqual(System(ABC, [[]]).standing(ABC), [])
        self.assertIsNone(System(ABC, []).standing([]))

    def test_by_name(self):
        system = System(ABC, [["a"], ["b"]])
        self.assertIs(system.decides(names=["b"]), True)
        self.assertEqual(system.within(names=["b", "c"]), ["b"])
        self.assertEqual(system.standing(fallen=["a"]), ["b"])
        self.assertIs(system.alike(other=system), True)

    def test_refused_as_a_set(self):
        for system in (System(ABC, [["a"]]), System(ABC, []), System(ABC, [[]])):
            for ask in (system.decides, system.within, system.standing):
                for found in other_things() + texts() + whole_numbers():
                    self.refused_with(NoSet, found, ask, found)
                for found in ["d", "", "lots"] + other_things() + rows() + whole_numbers():
                    self.refused_with(NoHouse, found, ask, ["a", found, "a"])
                    self.refused_with(NoHouse, found, ask, (found,))
                again = "".join(["b"])
                self.refused_with(Twice, again, ask, ["b", "a", again, "d"])


class Meeting(unittest.TestCase):
    def test_the_first_two(self):
        for system in some_systems(200):
            lots = system.lots()
            pairs = [
                (lots[at], lots[to]) for at in range(len(lots)) for to in range(at, len(lots))
                if not set(lots[at]) & set(lots[to])
            ]
            self.assertEqual(system.apart(), pairs[0] if pairs else None)
            self.assertIs(system.meets(), not pairs)

    def test_told_cases(self):
        self.assertIsNone(System(ABC, []).apart())
        self.assertIs(System(ABC, []).meets(), True)
        self.assertEqual(System(ABC, [[]]).apart(), ([], []))
        self.assertEqual(System(ABC, [["a"], [], ["b"]]).apart(), ([], []))
        self.assertIs(System(ABC, [[]]).meets(), False)
        self.assertIs(System(ABC, [["a"]]).meets(), True)
        self.assertEqual(System(ABC, [["b", "c"], ["a"], ["c"], ["a", "b"]]).apart(), (["a"], ["c"]))
        four = System(["a", "b", "c", "d"], [["c", "d"], ["b", "c"], ["a", "d"], ["a", "b"]])
        self.assertEqual(four.apart(), (["a", "b"], ["c", "d"]))
        self.assertIs(type(four.apart()), tuple)

    def test_a_thousand(self):
        big = [some for some in all_sets(TWELVE) if len(some) > 6][:1000]
        self.assertIs(System(TWELVE, big).meets(), True)
        self.assertEqual(System(TWELVE, thousand()).apart(), (["mill"], ["inn"]))


class Least(unittest.TestCase):
    def test_made_least(self):
        for system in some_systems(200):
            lots = system.lots()
            least = [lot for lot in lots if not any(set(one) < set(lot) for one in lots)]
            made = system.least()
            self.assertIs(type(made), System)
            self.assertEqual(made.houses(), system.houses())
            self.assertEqual(made.lots(), least)
            self.assertIs(system.is_least(), least == lots)
            self.assertIs(made.is_least(), True)
            self.assertEqual(made.table(), system.table())

    def test_edges(self):
        self.assertIs(System(ABC, []).is_least(), True)
        self.assertEqual(System(ABC, []).least().lots(), [])
        self.assertIs(System(ABC, [[]]).is_least(), True)
        self.assertIs(System(ABC, [[], ["c"]]).is_least(), False)
        self.assertEqual(System(ABC, [["c"], []]).least().lots(), [[]])
        self.assertEqual(System(TWELVE, thousand()).least().lots(), [[name] for name in TWELVE])

    def test_the_system_itself_is_not_changed(self):
        system = System(ABC, [["a"], ["a", "b"]])
        system.least()
        self.assertEqual(system.lots(), [["a"], ["a", "b"]])

    def test_alike(self):
        systems = some_systems(40, 4)
        for one, other in itertools.product(systems, repeat=2):
            same = one.houses() == other.houses() and one.least().lots() == other.least().lots()
            self.assertIs(one.alike(other), same)
            if one.houses() == other.houses():
                sets = all_sets(one.houses())
                self.assertIs(one.alike(other), all(one.decides(some) is other.decides(some) for some in sets))

    def test_alike_needs_the_same_order_of_houses(self):
        one = System(["a", "b"], [["a", "b"]])
        self.assertIs(one.alike(System(["b", "a"], [["a", "b"]])), False)
        self.assertIs(one.alike(System(["a", "c"], [["a", "c"]])), False)
        self.assertIs(one.alike(System(["a", "b", "c"], [["a", "b"]])), False)
        self.assertIs(System(["a"], []).alike(System(["b"], [])), False)
        self.assertIs(System(ABC, [["a"]]).alike(System(ABC, [["c", "a"], ["a"]])), True)
        self.assertIs(System(ABC, []).alike(System(ABC, [[]])), False)


class Masks(Refusals):
    def test_tables(self):
        for system in some_systems():
            ground = Houses(system.houses())
            table = system.table()
            self.assertIs(type(table), list)
            self.assertEqual(len(table), 2 ** ground.size())
            for mask, decides in enumerate(table):
                self.assertIs(decides, has_lot(system.lots(), ground.set_of(mask)))
            masks = [mask for mask in range(len(table)) if table[mask]]
            self.assertTrue(system_by(system.houses(), masks).alike(system))

    def test_tables_at_the_edges(self):
        self.assertEqual(System(["a"], []).table(), [False, False])
        self.assertEqual(System(["a"], [[]]).table(), [True, True])
        self.assertEqual(System(["a"], [["a"]]).table(), [False, True])
        self.assertEqual(System(["a", "b"], [["a"]]).table(), [False, True, False, True])
        self.assertEqual(System(TWELVE, []).table(), [False] * 4096)
        self.assertEqual(System(TWELVE, [TWELVE]).table(), [False] * 4095 + [True])
        self.assertEqual(System(TWELVE, thousand()).table(), [False] + [True] * 4095)

    def test_systems_by_masks(self):
        source = random.Random(3)
        for turn in range(100):
            names = TWELVE[:source.randint(1, 6)]
            ground = Houses(names)
            masks = [source.randrange(2 ** len(names)) for at in range(source.randint(0, 9))]
            lots = [ground.set_of(mask) for mask in masks]
            for told in (masks, tuple(masks + masks)):
                system = system_by(names, told)
                self.assertEqual(system.houses(), names)
                self.assertEqual(system.lots(), least_sets(names, lambda some: has_lot(lots, some)))

    def test_masks_at_the_edges(self):
        self.assertEqual(system_by(ABC, []).lots(), [])
        self.assertEqual(system_by(ABC, ()).lots(), [])
        self.assertEqual(system_by(ABC, [0]).lots(), [[]])
        self.assertEqual(system_by(ABC, [7]).lots(), [ABC])
        self.assertEqual(system_by(ABC, [7, 3, 3, 6, 0]).lots(), [[]])
        self.assertEqual(system_by(("a",), (1, 1)).lots(), [["a"]])
        self.assertEqual(system_by(TWELVE, [4095]).lots(), [TWELVE])
        self.assertEqual(system_by(TWELVE, [4095] * 4100).lots(), [TWELVE])
        six = [mask for mask in range(4096) if bin(mask).count("1") >= 6]
        self.assertEqual(system_by(TWELVE, six[::-1]).lots(), [list(lot) for lot in itertools.combinations(TWELVE, 6)])
        self.assertEqual(system_by(masks=[1], houses=["a"]).lots(), [["a"]])

    def test_nothing_is_changed(self):
        names, masks = ["a", "b"], [3, 1, 3]
        system = system_by(names, masks)
        self.assertEqual((names, masks), (["a", "b"], [3, 1, 3]))
        names.clear()
        masks.clear()
        self.assertEqual(system.told(), (("a", "b"), (("a",),)))

    def test_what_is_refused(self):
        for found in [[], ["a", "a"], TWELVE + ["more"]] + other_things() + texts() + whole_numbers():
            self.refused_with(NoHouses, found, system_by, found, [])
            self.refused_with(NoHouses, found, system_by, found, None)
        for found in other_things() + texts() + whole_numbers():
            self.refused_with(NoLots, found, system_by, ABC, found)
        for found in other_things() + texts() + rows() + [-1, 8, 9, 10**30 - 1, 4095]:
            for masks in ([found], (0, found), [7, 7, found, -1, None]):
                self.refused_with(NoNumber, found, system_by, ABC, masks)
        for many in range(1, 13):
            found = 2**many
            self.refused_with(NoNumber, found, system_by, TWELVE[:many], [found])
            self.assertEqual(system_by(TWELVE[:many], [found - 1]).lots(), [TWELVE[:many]])


class Again(unittest.TestCase):
    def test_equal_answers_whatever_was_asked_before(self):
        def answers(system):
            some = system.houses()[:1]
            return (
                system.told(), system.houses(), system.lots(), system.decides(some), system.within(some),
                system.apart(), system.meets(), system.is_least(), system.least().told(), system.standing(some),
                system.table(),
            )

        for system in some_systems():
            first = answers(system)
            self.assertEqual(answers(system), first)
            self.assertEqual(answers(System(system.houses(), system.lots()[::-1])), first)


if __name__ == "__main__":
    unittest.main()
