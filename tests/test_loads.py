"""Promises [5] to [9] and [83] to [85]: dealings, loads, and the least load with its paper."""

import copy
import itertools
import random
import unittest
from fractions import Fraction

from alwaysmeet.errors import NoDealing, NoLots, TooMany
from alwaysmeet.loads import least_load, load_of, shows_load
from alwaysmeet.plans import Grid, Many, Tree, Wall
from alwaysmeet.systems import System

from things import TWELVE, Refusals, all_sets, nearly, other_things, rows, some_systems, texts, whole_numbers

ABC = ["a", "b", "c"]
TWO_OF_THREE = Many(2, ABC).system()
SIXES = [list(some) for some in itertools.combinations(TWELVE, 6)]


def is_plain_share(thing):
    if type(thing) is not tuple or [type(part) for part in thing] != [int, int] or thing[0] < 0 or thing[1] < 1:
        return False
    share = Fraction(*thing)
    return (share.numerator, share.denominator) == thing


def as_share(number):
    return number.numerator, number.denominator


def is_plain_dealing(system, thing):
    """Whether the thing is a dealing, looked at plainly."""
    if type(thing) is not list:
        return False
    for row in thing:
        if type(row) is not tuple or len(row) != 2 or type(row[0]) is not list:
            return False
        if row[0] not in system.lots() or not is_plain_share(row[1]) or row[1] == (0, 1):
            return False
    places = [system.lots().index(lot) for lot, share in thing]
    return sorted(set(places)) == places and sum(Fraction(*share) for lot, share in thing) == 1


def plain_loads(system, dealing):
    return {name: sum((Fraction(*share) for lot, share in dealing if name in lot), Fraction(0))
            for name in system.houses()}


def plain_shows(system, thing):
    """Whether the thing shows the least load, looked at plainly."""
    if type(thing) is not tuple or len(thing) != 3 or not is_plain_share(thing[0]):
        return False
    if not is_plain_dealing(system, thing[1]) or type(thing[2]) is not dict:
        return False
    if set(thing[2]) != set(system.houses()) or not all(is_plain_share(share) for share in thing[2].values()):
        return False
    load = Fraction(*thing[0])
    shares = {name: Fraction(*share) for name, share in thing[2].items()}
    if sum(shares.values()) != 1 or max(plain_loads(system, thing[1]).values()) > load:
        return False
    return all(sum(shares[name] for name in lot) >= load for lot in system.lots())


def random_dealing(source, system):
    """A dealing of a system that has lots."""
    lots = [lot for lot in system.lots() if source.random() < 0.7] or system.lots()[:1]
    parts = [source.randint(1, 9) for lot in lots]
    return [(lot, as_share(Fraction(part, sum(parts)))) for lot, part in zip(lots, parts)]


class LoadOf(Refusals):
    def test_loads(self):
        source = random.Random(37)
        for system in some_systems(150):
            if system.lots():
                dealing = random_dealing(source, system)
                before = copy.deepcopy(dealing)
                told = load_of(system, dealing)
                loads = plain_loads(system, dealing)
                right = {name: as_share(load) for name, load in loads.items()}
                self.assertEqual(told, (right, as_share(max(loads.values()))))
                self.assertEqual((type(told), type(told[0])), (tuple, dict))
                self.assertEqual(list(told[0]), system.houses())
                self.assertTrue(all(is_plain_share(share) for share in list(told[0].values()) + [told[1]]))
                self.assertEqual(dealing, before)
                told[0].clear()
                self.assertEqual(load_of(dealing=dealing, system=system)[0], right)

    def test_told_cases(self):
        dealing = [(["a", "b"], (1, 2)), (["b", "c"], (1, 2))]
        self.assertEqual(load_of(TWO_OF_THREE, dealing), ({"a": (1, 2), "b": (1, 1), "c": (1, 2)}, (1, 1)))
        self.assertEqual(load_of(System(["a"], [[]]), [([], (1, 1))]), ({"a": (0, 1)}, (0, 1)))
        self.assertEqual(load_of(System(["a"], [["a"]]), [(["a"], (1, 1))]), ({"a": (1, 1)}, (1, 1)))
        system = System(["b", "a"], [[], ["a"], ["a", "b"]])
        dealing = [([], (1, 3)), (["a"], (1, 6)), (["b", "a"], (1, 2))]
        told = load_of(system, dealing)
        self.assertEqual((told, list(told[0])), (({"b": (1, 2), "a": (2, 3)}, (2, 3)), ["b", "a"]))
        every = load_of(System(TWELVE, [TWELVE]), [(TWELVE, (1, 1))])
        self.assertEqual((every, list(every[0])), (({name: (1, 1) for name in TWELVE}, (1, 1)), TWELVE))

    def test_many_lots(self):
        system = System(TWELVE, SIXES)
        loads, most = load_of(system, [(lot, (1, 924)) for lot in system.lots()])
        self.assertEqual((set(loads.values()), most), ({(1, 2)}, (1, 2)))

    def test_shares_of_400_figures(self):
        great = 10**399
        system = System(ABC, [["a"], ["b"]])
        dealing = [(["a"], (1, great)), (["b"], (great - 1, great))]
        self.assertEqual(load_of(system, dealing)[1], (great - 1, great))
        short = [(["a"], (1, great)), (["b"], (great - 3, great))]
        self.refused_with(NoDealing, short, load_of, system, short)

    def test_things_that_are_nearly_right(self):
        source = random.Random(41)
        seen = {True: 0, False: 0}
        for system in some_systems(40, 4) + [TWO_OF_THREE]:
            if system.lots():
                for thing in nearly(random_dealing(source, system)):
                    right = is_plain_dealing(system, thing)
                    seen[right] += 1
                    if right:
                        self.assertEqual(load_of(system, thing)[1], as_share(max(plain_loads(system, thing).values())))
                    else:
                        self.refused_with(NoDealing, thing, load_of, system, thing)
        self.assertGreater(seen[False], 2000)

    def test_no_dealings(self):
        one, half = (1, 1), (1, 2)
        ab, ac = ["a", "b"], ["a", "c"]
        for thing in (
            [], (), [(ab, half)], [(ab, half), (ab, half)], [(ac, half), (ab, half)], ((ab, half), (ac, half)),
            [(["b", "a"], one)], [(("a", "b"), one)], [(ab, (2, 2))], [(ab, True)], [(ab, (True, 1))], [(ab, 1)],
            [(ab, one), (ac, (0, 1))], [(["a"], one)], [(ABC, one)], [(ab, half), (ac, (3, 4))], [[ab, one]],
            [(ab, one, one)], [(ab,)], {"a": one}, [(ab, (3, 2))], [("ab", one)], [(["a", "x"], one)], [(ab, [1, 1])],
            [([], one)], [(["a", "a"], one)], [(ab, (-1, 1)), (ac, (2, 1))],
        ):
            self.refused_with(NoDealing, thing, load_of, TWO_OF_THREE, thing)
        self.assertEqual(load_of(TWO_OF_THREE, [(ab, half), (ac, half)])[1], one)

    def test_any_thing(self):
        for system in (TWO_OF_THREE, System(ABC, []), System(ABC, [[]]), System(["a"], [["a"]])):
            one = system.houses() == ["a"]
            for thing in other_things() + rows() + texts() + whole_numbers():
                self.refused_with(NoDealing, thing, load_of, system, thing)
                dealing = [thing]
                self.refused_with(NoDealing, dealing, load_of, system, dealing)
                dealing = [(["a"], thing)]
                self.refused_with(NoDealing, dealing, load_of, system, dealing)
                dealing = [(thing, (1, 1))]
                if not (thing == [] and system.lots() == [[]] or one and thing == ["a"]):
                    self.refused_with(NoDealing, dealing, load_of, system, dealing)


class LeastLoad(Refusals):
    def right(self, system):
        """What is told of a system, which has to be right."""
        told = least_load(system)
        self.assertTrue(plain_shows(system, told), (system.told(), told))
        self.assertIs(shows_load(system, told), True)
        self.assertIs(shows_load(system, copy.deepcopy(told)), True)
        self.assertEqual([type(part) for part in told], [tuple, list, dict])
        self.assertEqual(list(told[2]), system.houses())
        least = system.least().lots()
        self.assertTrue(all(lot in least for lot, share in told[1]))
        self.assertEqual(load_of(system, told[1])[1], told[0])
        return told

    def test_against_the_paper(self):
        for system in some_systems(300):
            if system.lots():
                self.right(system)

    def test_no_dealing_loads_less(self):
        source = random.Random(43)
        for system in some_systems(60, 5):
            if system.lots():
                load = Fraction(*least_load(system)[0])
                for turn in range(20):
                    self.assertGreaterEqual(Fraction(*load_of(system, random_dealing(source, system))[1]), load)

    def test_told_cases(self):
        for load, system in (
            ((2, 3), TWO_OF_THREE), ((1, 1), System(ABC, [["a"]])), ((1, 2), System(ABC, [["a"], ["b"]])),
            ((1, 3), System(ABC, [["a"], ["b"], ["c"]])), ((1, 1), System(ABC, [["a", "b"], ["a", "c"]])),
            ((11, 12), Many(11, TWELVE).system()), ((1, 12), Many(1, TWELVE).system()),
            ((1, 1), System(TWELVE, [TWELVE])), ((1, 1), System(["a"], [["a"]])),
            ((3, 4), Grid([["a", "b"], ["c", "d"]]).system()), ((2, 3), Wall([["a"], ["b", "c"]]).system()),
            ((5, 9), Grid([TWELVE[:3], TWELVE[3:6], TWELVE[6:9]]).system()),
            ((2, 3), Tree("a", [Tree("b"), Tree("c")]).system()),
        ):
            self.assertEqual(self.right(system)[0], load)

    def test_the_lot_without_houses(self):
        for system in (
            System(["a"], [[]]), System(TWELVE, [[]]), System(ABC, [[], ["a"], ABC]), Many(0, TWELVE).system(),
        ):
            told = self.right(system)
            self.assertEqual(told[:2], ((0, 1), [([], (1, 1))]))
        system = System(ABC, [[], ["a"]])
        shares = {"a": (1, 3), "b": (1, 3), "c": (1, 3)}
        self.assertIs(shows_load(system, ((0, 1), [([], (1, 1))], shares)), True)
        self.assertIs(shows_load(system, ((0, 1), [([], (1, 2)), (["a"], (1, 2))], shares)), False)
        self.assertIs(shows_load(system, ((1, 3), [([], (1, 1))], shares)), False)

    def test_no_lots(self):
        for names in (["a"], ABC, TWELVE):
            refusal = self.refused(NoLots, least_load, System(names, []))
            self.assertEqual((type(refusal.found), refusal.found), (list, []))
            refusal.found.append("a")
            self.assertEqual(self.refused(NoLots, least_load, system=System(names, [])).found, [])
            self.assertIs(shows_load(System(names, []), ((0, 1), [], {name: (1, len(names)) for name in names})), False)

    def test_sixty_least_lots_and_more(self):
        system = System(TWELVE, SIXES[:60])
        self.right(system)
        refusal = self.refused(TooMany, least_load, System(TWELVE, SIXES[:61]))
        self.assertEqual((type(refusal.found), refusal.found), (int, 61))
        self.assertEqual(self.refused(TooMany, least_load, Many(6, TWELVE).system()).found, 924)
        self.assertEqual(self.refused(TooMany, least_load, Many(2, TWELVE).system()).found, 66)
        self.assertEqual(self.refused(TooMany, least_load, System(TWELVE, SIXES[:61] + [TWELVE])).found, 61)
        self.right(Many(2, TWELVE[:11]).system())

    def test_many_lots_of_which_few_are_least(self):
        sevens = itertools.combinations(TWELVE, 7)
        seven = [list(some) for some in sevens if any(set(one) < set(some) for one in SIXES[:60])]
        system = System(TWELVE, SIXES[:60] + seven)
        self.assertGreater(len(system.lots()), 150)
        self.assertEqual(self.right(system)[0], least_load(System(TWELVE, SIXES[:60]))[0])
        more = System(TWELVE, [some for some in all_sets(TWELVE) if "mill" in some or "inn" in some][:1000])
        self.assertEqual(self.right(more)[0], (1, 2))
        with_empty = System(TWELVE, SIXES[:100] + [[]])
        self.assertEqual(self.right(with_empty)[0], (0, 1))

    def test_systems_of_twelve_houses(self):
        source = random.Random(47)
        for turn in range(25):
            lots = source.sample(all_sets(TWELVE)[1:], source.randint(1, 40))
            self.right(System(TWELVE, lots))

    def test_the_same_answer_each_time_and_new_lists(self):
        system = System(ABC, [["a", "b"], ["b", "c"], ["a", "c"], ABC])
        told = least_load(system)
        again = least_load(System(ABC, [ABC, ["c", "a"], ["c", "b"], ["a", "b"]]))
        self.assertEqual(told, again)
        told[1][0][0].clear()
        told[1].clear()
        told[2].clear()
        self.assertEqual(least_load(system), again)
        self.assertEqual(system.lots(), [["a", "b"], ["a", "c"], ["b", "c"], ABC])
        empty = System(ABC, [[]])
        least_load(empty)[1][0][0].append("a")
        self.assertEqual(least_load(empty)[1], [([], (1, 1))])


class Shown(unittest.TestCase):
    def test_things_that_are_nearly_right(self):
        seen = {True: 0, False: 0}
        for system in some_systems(40, 4) + [TWO_OF_THREE, System(ABC, [["a"], ["b"], ["a", "b"]])]:
            if system.lots():
                for thing in nearly(least_load(system)):
                    right = plain_shows(system, thing)
                    seen[right] += 1
                    self.assertIs(shows_load(system, thing), right, (system.told(), thing))
        self.assertGreater(seen[False], 3000)
        # The houses of the dict may stand in another order.
        self.assertGreater(seen[True], 20)

    def test_any_lot_may_be_dealt(self):
        system = System(ABC, [["a"], ["a", "b"], ABC])
        shares = {"c": (0, 1), "b": (0, 1), "a": (1, 1)}
        for dealing in (
            [(["a"], (1, 1))], [(["a", "b"], (1, 1))], [(ABC, (1, 1))], [(["a"], (1, 2)), (ABC, (1, 2))],
        ):
            self.assertIs(shows_load(system, ((1, 1), dealing, shares)), True)
            self.assertIs(shows_load(system, ((2, 1), dealing, shares)), False)
            self.assertIs(shows_load(system, ((1, 2), dealing, shares)), False)
        self.assertIs(shows_load(system, ((1, 1), [(ABC, (1, 2)), (["a"], (1, 2))], shares)), False)

    def test_shares_of_houses(self):
        dealing = [(["a", "b"], (1, 3)), (["a", "c"], (1, 3)), (["b", "c"], (1, 3))]
        third = {"a": (1, 3), "b": (1, 3), "c": (1, 3)}
        self.assertIs(shows_load(thing=((2, 3), dealing, third), system=TWO_OF_THREE), True)
        for shares in (
            {"a": (1, 2), "b": (1, 2), "c": (0, 1)}, {"a": (1, 3), "b": (1, 3)}, {**third, "x": (0, 1)},
            {**third, True: (0, 1)}, {"a": (2, 3), "b": (2, 3), "c": (2, 3)}, {"a": (1, 3), "b": (1, 3), "d": (1, 3)},
            {"a": (1, 3), "b": (1, 3), "c": (2, 6)}, {"a": [1, 3], "b": (1, 3), "c": (1, 3)}, list(third.items()),
            {}, None, {0: (1, 3), 1: (1, 3), 2: (1, 3)}, {("a",): (1, 3), "b": (1, 3), "c": (1, 3)},
        ):
            self.assertIs(shows_load(TWO_OF_THREE, ((2, 3), dealing, shares)), False)
        self.assertIs(shows_load(TWO_OF_THREE, ((1, 1), dealing, third)), False)
        self.assertIs(shows_load(TWO_OF_THREE, ((1, 3), dealing, third)), False)
        self.assertIs(shows_load(TWO_OF_THREE, [(2, 3), dealing, third]), False)

    def test_systems_too_great_to_be_told(self):
        system = Many(6, TWELVE).system()
        shares = {name: (1, 12) for name in TWELVE}
        good = ((1, 2), [(TWELVE[:6], (1, 2)), (TWELVE[6:], (1, 2))], shares)
        self.assertIs(shows_load(system, good), True)
        self.assertIs(shows_load(system, ((1, 2), [(TWELVE[:6], (1, 1))], shares)), False)

    def test_any_thing(self):
        for system in (TWO_OF_THREE, System(ABC, []), System(ABC, [[]]), System(["a"], [["a"]])):
            told = ((0, 1), [], {}) if not system.lots() else least_load(system)
            for thing in other_things() + rows() + texts() + whole_numbers():
                self.assertIs(shows_load(system, thing), False)
                self.assertIs(shows_load(system, (thing, told[1], told[2])), False)
                self.assertIs(shows_load(system, (told[0], thing, told[2])), False)
                self.assertIs(shows_load(system, (told[0], told[1], thing)), False)
                self.assertIs(shows_load(system, (told[0], told[1], {**told[2], "a": thing})), False)

    def test_nothing_is_changed(self):
        told = least_load(TWO_OF_THREE)
        before = copy.deepcopy(told)
        shows_load(TWO_OF_THREE, told)
        self.assertEqual((told, list(told[2])), (before, list(before[2])))


if __name__ == "__main__":
    unittest.main()
