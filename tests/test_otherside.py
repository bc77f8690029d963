"""Promises [4], [7], [8], [9] and [50] to [53]: the other side, and how falls are settled."""

import unittest

from alwaysmeet.errors import NoHouse, NoSet, Twice
from alwaysmeet.otherside import is_own_side, other_side, settled, shows_settled
from alwaysmeet.plans import Many, Tree, Wall
from alwaysmeet.systems import System

from things import TWELVE, Refusals, all_sets, least_sets, other_things, rows, some_systems, texts, whole_numbers

ABC = ["a", "b", "c"]
TWO_OF_THREE = Many(2, ABC).system()


def meets_all(lots, some):
    """Whether the set shares a house with every lot, looked at plainly."""
    return all(set(lot) & set(some) for lot in lots)


def without(names, some):
    return [name for name in names if name not in some]


class OtherSide(unittest.TestCase):
    def test_the_least_sets_that_meet_every_lot(self):
        for system in some_systems(150):
            names, lots = system.houses(), system.lots()
            other = other_side(system)
            self.assertIs(type(other), System)
            self.assertEqual(other.houses(), names)
            self.assertEqual(other.lots(), least_sets(names, lambda some: meets_all(lots, some)))
            for some in all_sets(names):
                self.assertIs(other.decides(some), not system.decides(without(names, some)))
            self.assertEqual((system.houses(), system.lots()), (names, lots))

    def test_the_other_side_of_the_other_side(self):
        for system in some_systems(150):
            self.assertEqual(other_side(other_side(system)).told(), system.least().told())

    def test_edges(self):
        self.assertEqual(other_side(System(ABC, [])).told(), (("a", "b", "c"), ((),)))
        self.assertEqual(other_side(System(ABC, [[]])).told(), (("a", "b", "c"), ()))
        self.assertEqual(other_side(System(ABC, [["a"], []])).lots(), [])
        self.assertEqual(other_side(System(["a"], [["a"]])).lots(), [["a"]])
        self.assertEqual(other_side(System(TWELVE, [TWELVE])).lots(), [[name] for name in TWELVE])
        self.assertEqual(other_side(System(TWELVE, [[name] for name in TWELVE])).lots(), [TWELVE])
        self.assertEqual(other_side(System(TWELVE, [])).lots(), [[]])
        self.assertEqual(other_side(Many(6, TWELVE).system()).told(), Many(7, TWELVE).system().told())
        self.assertEqual(other_side(Many(7, TWELVE).system()).told(), Many(6, TWELVE).system().told())
        self.assertEqual(other_side(system=System(["b", "a"], [["a", "b"]])).lots(), [["b"], ["a"]])

    def test_own_side(self):
        seen = 0
        for system in some_systems(300, 4):
            own = other_side(system).lots() == system.least().lots()
            seen += own
            self.assertIs(is_own_side(system), own)
            self.assertIs(is_own_side(system=system), own)
        self.assertGreater(seen, 5)

    def test_own_side_in_told_cases(self):
        for own, system in (
            (True, TWO_OF_THREE), (True, System(["a"], [["a"]])), (True, System(TWELVE, [["inn"], ["inn", "mill"]])),
            (True, System(ABC, TWO_OF_THREE.lots() + [ABC])), (True, Tree("a", [Tree("b"), Tree("c")]).system()),
            (True, Wall([["a"], ["b", "c"]]).system()), (True, Many(6, TWELVE[:11]).system()),
            (False, System(["a"], [])), (False, System(["a"], [[]])), (False, System(TWELVE, [])),
            (False, System(ABC, [ABC])), (False, Many(7, TWELVE).system()), (False, Many(6, TWELVE).system()),
            (False, System(ABC, [["a", "b"], ["b", "c"]])),
        ):
            self.assertIs(is_own_side(system), own)

    def test_lists_are_new_ones_each_time(self):
        system = System(ABC, [["a", "b"]])
        other_side(system).lots().clear()
        settled(system, [])[1].clear()
        settled(system, ["a"])[1].clear()
        self.assertEqual(settled(system, []), ("stands", ["a", "b"]))
        self.assertEqual(settled(system, ["a"]), ("falls", ["a"]))
        self.assertEqual(system.lots(), [["a", "b"]])


class Settled(Refusals):
    def test_all_falls(self):
        for system in some_systems(120):
            names, lots = system.houses(), system.lots()
            other = least_sets(names, lambda some: meets_all(lots, some))
            for fallen in all_sets(names):
                lot = next((lot for lot in lots if not set(lot) & set(fallen)), None)
                some = next((some for some in other if set(some) <= set(fallen)), None)
                self.assertEqual((lot is None), (some is not None))
                right = ("stands", lot) if lot is not None else ("falls", some)
                for told in (settled(system, fallen), settled(system, tuple(fallen[::-1]))):
                    self.assertEqual((type(told), type(told[1]), told), (tuple, list, right))
                self.assertIs(shows_settled(system, fallen, settled(system, fallen)), True)

    def test_edges(self):
        self.assertEqual(settled(System(ABC, []), []), ("falls", []))
        self.assertEqual(settled(System(ABC, []), ABC), ("falls", []))
        self.assertEqual(settled(System(ABC, [[]]), ABC), ("stands", []))
        self.assertEqual(settled(System(["a"], [["a"]]), []), ("stands", ["a"]))
        self.assertEqual(settled(System(["a"], [["a"]]), ["a"]), ("falls", ["a"]))
        self.assertEqual(settled(Many(7, TWELVE).system(), TWELVE), ("falls", TWELVE[:6]))
        self.assertEqual(settled(Many(7, TWELVE).system(), TWELVE[:5]), ("stands", TWELVE[5:]))
        self.assertEqual(settled(fallen=["a"], system=TWO_OF_THREE), ("stands", ["b", "c"]))

    def test_all_sets_are_looked_at(self):
        for system in some_systems(40, 4):
            sets = all_sets(system.houses())
            for fallen in sets:
                for some in sets:
                    stands = some in system.lots() and not set(some) & set(fallen)
                    falls = set(some) <= set(fallen) and meets_all(system.lots(), some)
                    self.assertIs(shows_settled(system, fallen, ("stands", some)), stands)
                    self.assertIs(shows_settled(system, tuple(fallen[::-1]), ("falls", some)), falls)

    def test_what_need_not_be_first_nor_least(self):
        system = System(ABC, [["a"], ["b"], ["a", "b", "c"]])
        self.assertIs(shows_settled(system, [], ("stands", ["b"])), True)
        self.assertIs(shows_settled(system, [], ("stands", ["a", "b", "c"])), True)
        self.assertIs(shows_settled(system, ABC, ("falls", ABC)), True)
        self.assertIs(shows_settled(system, ["b", "a"], ("falls", ["a", "b"])), True)
        self.assertIs(shows_settled(thing=("stands", ["b"]), fallen=["a"], system=system), True)

    def test_things_that_are_nearly_right(self):
        system = System(["a", "b", "c", "d"], [["a", "b"], ["b", "c"], ["c", "d"]])
        for fallen, thing in (
            (["a"], ("stands", ["a", "b"])), (["a"], ("stands", ["c", "b"])), (["a"], ("stands", ["b", "b", "c"])),
            (["a"], ("stands", ("b", "c"))), (["a"], ["stands", ["b", "c"]]), (["a"], ("stands", ["b"])),
            (["a"], ("stands", ["b", "c", "d"])), (["a"], ("falls", ["b", "c"])), (["a"], ("stands", ["b", "c"], None)),
            (["a"], ("stands",)), (["a"], ("Stands", ["b", "c"])), (["a"], ("stands ", ["b", "c"])),
            (["a"], (["b", "c"], "stands")), (["a"], ("stands", [])), (["a"], ("stands", ["b", "x"])),
            (["a"], ("stands", [["b", "c"]])), (["a"], ("stands", "bc")), (["a"], ("stands", None)),
            (["a"], ("stands", ["b", "c", None])), (["a"], (True, ["b", "c"])), (["a"], ("stands", [1, 2])),
            (["b", "c"], ("falls", ["c", "b"])), (["b", "c"], ("falls", ["b", "b", "c"])),
            (["b", "c"], ("falls", ("b", "c"))), (["b", "c"], ["falls", ["b", "c"]]), (["b", "c"], ("falls", ["b"])),
            (["b", "c"], ("falls", ["a", "b", "c"])), (["b", "c"], ("stands", ["b", "c"])), (["b", "c"], ("falls", [])),
            (["b", "c"], ("falls", ["b", "c"], [])), (["b", "c"], ("falls", ["b", "c", "x"])), (["b", "c"], ("falls",)),
            (["b", "c"], ("fall", ["b", "c"])), (["b", "c"], ("falls", None)), (["b", "c"], ("falls", ["b", True])),
        ):
            self.assertIs(shows_settled(system, fallen, thing), False, (fallen, thing))
        self.assertIs(shows_settled(system, ["a"], ("stands", ["b", "c"])), True)
        self.assertIs(shows_settled(system, ["b", "c"], ("falls", ["b", "c"])), True)

    def test_things_of_another_system(self):
        one, other = System(ABC, [["a", "b"]]), System(ABC, [["b", "c"]])
        self.assertIs(shows_settled(other, [], settled(one, [])), False)
        self.assertIs(shows_settled(other, ["a", "b"], settled(one, ["a", "b"])), False)
        self.assertIs(shows_settled(System(["b", "a"], [["a", "b"]]), [], ("stands", ["a", "b"])), False)

    def test_any_thing(self):
        for system in (TWO_OF_THREE, System(ABC, []), System(ABC, [[]])):
            for thing in other_things() + rows() + texts() + whole_numbers():
                for fallen in ([], ["a"], ABC):
                    self.assertIs(shows_settled(system, fallen, thing), False)
                    self.assertIs(shows_settled(system, fallen, (thing, ["b", "c"])), False)
                    self.assertIs(shows_settled(system, fallen, (thing, [])), False)
                    if thing != []:
                        for word in ("stands", "falls"):
                            right = thing == ["a"] and word == "falls" and system.lots() == [] and fallen != []
                            self.assertIs(shows_settled(system, fallen, (word, thing)), right, (word, thing))

    def test_refused_as_a_set(self):
        good = ("stands", ["b", "c"])
        for system in (TWO_OF_THREE, System(ABC, []), System(ABC, [[]])):
            for ask in (settled, lambda one, fallen: shows_settled(one, fallen, good),
                        lambda one, fallen: shows_settled(one, fallen, None)):
                for found in other_things() + texts() + whole_numbers():
                    self.refused_with(NoSet, found, ask, system, found)
                for found in ["x", "", "lots"] + other_things() + rows() + whole_numbers():
                    self.refused_with(NoHouse, found, ask, system, ["a", found, "a"])
                again = "".join(["b"])
                self.refused_with(Twice, again, ask, system, ("b", "a", again, "x"))

    def test_nothing_is_changed(self):
        system, fallen, thing = System(ABC, [["a", "b"]]), ["c", "a"], ("falls", ["a"])
        self.assertIs(shows_settled(system, fallen, thing), True)
        settled(system, fallen)
        self.assertEqual((system.lots(), fallen, thing), ([["a", "b"]], ["c", "a"], ("falls", ["a"])))


if __name__ == "__main__":
    unittest.main()
