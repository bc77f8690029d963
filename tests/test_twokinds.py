"""Promises [6] to [9] and [70] to [76]: two kinds of lots."""

import copy
import itertools
import random
import unittest

from alwaysmeet.errors import Apart, NoHouses, NoLots, NoNumber, NoPlan
from alwaysmeet.houses import Houses
from alwaysmeet.otherside import other_side
from alwaysmeet.plans import Grid, Lots, Many, Weights
from alwaysmeet.systems import System
from alwaysmeet.twokinds import Two, by_grid, by_votes, house_of, rows_of, shows_two, two_of

from things import (
    TWELVE, Refusals, all_sets, least_sets, nearly, other_things, rows, some_systems, texts, twenty_deep,
    whole_numbers,
)

ABC = ["a", "b", "c"]
TWO_OF_THREE = Many(2, ABC).system()


def plain_apart(reads, writes):
    """The first two lots of both that share no house, or None, looked at plainly."""
    for read in reads.lots():
        for write in writes.lots():
            if not set(read) & set(write):
                return read, write
    return None


def some_pairs(many=120, houses=6):
    """Pairs of systems of the same houses, of which many meet, always the same ones."""
    source = random.Random(13)
    told = []
    for system in some_systems(many, houses):
        names = system.houses()
        sets = all_sets(names)
        good = [some for some in sets if all(set(some) & set(lot) for lot in system.lots())]
        for pool in (sets, good, good):
            told.append((system, System(names, source.sample(pool, min(len(pool), source.randint(0, 6))))))
    return told


def some_twos(many=120, houses=6):
    return [Two(*pair) for pair in some_pairs(many, houses) if plain_apart(*pair) is None]


class Made(Refusals):
    def test_made_where_all_lots_meet(self):
        seen = [0, 0]
        for reads, writes in some_pairs():
            pair = plain_apart(reads, writes)
            seen[pair is None] += 1
            if pair is None:
                two = Two(reads, writes)
                self.assertEqual(two.reads().told(), reads.told())
                self.assertEqual(two.writes().told(), writes.told())
                self.assertEqual(two.told(), (reads.told(), writes.told()))
                self.assertEqual((type(two.reads()), type(two.told())), (System, tuple))
            else:
                refusal = self.refused(Apart, Two, reads, writes)
                self.assertEqual((refusal.one, refusal.other), pair)
                self.assertEqual((type(refusal.one), type(refusal.other)), (list, list))
        self.assertGreater(min(seen), 50)

    def test_by_place_and_by_name(self):
        reads, writes = System(ABC, [["a"]]), System(ABC, [["a", "c"], ["a", "b"]])
        for two in (Two(reads, writes), Two(writes=writes, reads=reads), Two(reads, writes=writes)):
            self.assertEqual(two.told(), ((("a", "b", "c"), (("a",),)), (("a", "b", "c"), (("a", "b"), ("a", "c")))))

    def test_edges(self):
        none, empty, every = System(ABC, []), System(ABC, [[]]), System(ABC, [ABC])
        for reads, writes in ((none, none), (none, empty), (empty, none), (none, every), (every, none)):
            self.assertEqual(Two(reads, writes).told(), (reads.told(), writes.told()))
        for reads, writes, one, other in (
            (empty, empty, [], []), (empty, every, [], ABC), (every, empty, ABC, []),
            (System(ABC, [["a"], ["b"], ["c"]]), System(ABC, [["a"], ["a", "b"], ["b", "c"]]), ["a"], ["b", "c"]),
            (System(ABC, [ABC, []]), System(ABC, [ABC, ["c"]]), [], ["c"]),
            (System(ABC, [["b", "c"], ["a", "b"]]), System(ABC, [["c"], ["b"], ["a"]]), ["a", "b"], ["c"]),
        ):
            refusal = self.refused(Apart, Two, reads, writes)
            self.assertEqual((refusal.one, refusal.other), (one, other))
        one = System(["a"], [["a"]])
        self.assertEqual(Two(one, one).told(), (one.told(), one.told()))

    def test_twelve_houses_and_many_lots(self):
        sets = [some for some in all_sets(TWELVE) if len(some) >= 7]
        reads, writes = System(TWELVE, sets[:1000]), System(TWELVE, sets[-1000:])
        two = Two(reads, writes)
        self.assertEqual(len(two.swapped().reads().lots()), 1000)
        apart = System(TWELVE, sets[-999:] + [TWELVE[7:]])
        refusal = self.refused(Apart, Two, reads, apart)
        self.assertEqual((refusal.one, refusal.other), (TWELVE[:7], TWELVE[7:]))

    def test_no_systems(self):
        good = TWO_OF_THREE
        for thing in other_things() + rows() + texts() + whole_numbers():
            if not isinstance(thing, System):
                self.refused_with(NoLots, thing, Two, thing, good)
                self.refused_with(NoLots, thing, Two, good, thing)
                self.refused_with(NoLots, thing, Two, thing, None)
                self.refused_with(NoLots, thing, Two, System(["z"], []), thing)
                self.refused_with(NoLots, thing, two_of, thing)
                self.refused_with(NoLots, thing, shows_two, thing, good, [])
                self.refused_with(NoLots, thing, shows_two, good, thing, None)
                self.refused_with(NoLots, thing, shows_two, thing, None, None)

    def test_other_houses(self):
        reads = System(["a", "b"], [["a"]])
        for names in (["b", "a"], ["a"], ["a", "b", "c"], ["a", "c"], ["c", "a", "b"]):
            # The lots share no house either, but the houses are looked at first.
            for lots in ([], [[]], [names], [[name] for name in names]):
                refusal = self.refused(NoHouses, Two, reads, System(names, lots))
                self.assertEqual((type(refusal.found), refusal.found), (list, names))
                refusal.found.clear()

    def test_nothing_is_changed_or_shared(self):
        names, lots = ["a", "b"], [["a"]]
        two = Two(System(names, lots), System(names, [["a", "b"]]))
        names.append("c")
        lots[0].append("b")
        two.reads().lots().clear()
        two.writes().houses().clear()
        self.assertEqual(two.told(), ((("a", "b"), (("a",),)), (("a", "b"), (("a", "b"),))))
        other = Two(System(["x"], [["x"]]), System(["x"], []))
        two.swapped(), two.filled(), other.filled()
        self.assertEqual(two.told(), ((("a", "b"), (("a",),)), (("a", "b"), (("a", "b"),))))
        self.assertEqual(other.told(), ((("x",), (("x",),)), (("x",), ())))


class Swapped(Refusals):
    def test_swapped(self):
        for two in some_twos():
            swapped = two.swapped()
            self.assertIs(type(swapped), Two)
            self.assertEqual(swapped.told(), two.told()[::-1])
            self.assertEqual(swapped.swapped().told(), two.told())

    def test_two_of_a_system(self):
        seen = [0, 0]
        for system in some_systems(150) + [System(ABC, [[], ["a"]]), TWO_OF_THREE, System(TWELVE, [TWELVE])]:
            seen[system.meets()] += 1
            if system.meets():
                two = two_of(system)
                self.assertEqual((type(two), two.told()), (Two, (system.told(), system.told())))
            else:
                refusal = self.refused(Apart, two_of, system)
                self.assertEqual((refusal.one, refusal.other), system.apart())
                self.assertEqual((refusal.one, refusal.other), plain_apart(system, system))
        self.assertGreater(min(seen), 20)
        self.assertEqual(two_of(system=TWO_OF_THREE).told(), (TWO_OF_THREE.told(), TWO_OF_THREE.told()))

    def test_full(self):
        seen = [0, 0]
        for two in some_twos(150, 5) + [two.filled() for two in some_twos(30, 4)]:
            names, lots = two.reads().houses(), two.reads().lots()
            right = all(
                two.writes().decides(some) is all(set(some) & set(lot) for lot in lots) for some in all_sets(names)
            )
            seen[right] += 1
            self.assertIs(two.is_full(), right)
            self.assertIs(two.swapped().is_full(), right)
        self.assertGreater(min(seen), 20)

    def test_filled(self):
        for two in some_twos():
            names, lots = two.reads().houses(), two.reads().lots()
            told = two.filled()
            self.assertIs(type(told), Two)
            self.assertEqual(told.reads().told(), two.reads().told())
            right = least_sets(names, lambda some: all(set(some) & set(lot) for lot in lots))
            self.assertEqual((told.writes().houses(), told.writes().lots()), (names, right))
            self.assertEqual(told.writes().told(), other_side(two.reads()).told())
            self.assertIs(told.is_full(), True)
            for some in all_sets(names):
                self.assertTrue(told.writes().decides(some) or not two.writes().decides(some))

    def test_full_at_the_edges(self):
        none, empty = System(ABC, []), System(ABC, [[]])
        self.assertIs(Two(none, empty).is_full(), True)
        self.assertIs(Two(empty, none).is_full(), True)
        self.assertIs(Two(none, none).is_full(), False)
        self.assertEqual(Two(none, none).filled().told(), (none.told(), empty.told()))
        self.assertEqual(Two(empty, none).filled().told(), (empty.told(), none.told()))
        self.assertIs(two_of(TWO_OF_THREE).is_full(), True)
        # Lots that are not least let the same sets decide.
        self.assertIs(Two(TWO_OF_THREE, System(ABC, TWO_OF_THREE.lots() + [ABC])).is_full(), True)
        self.assertIs(two_of(System(TWELVE, [TWELVE])).is_full(), False)
        filled = two_of(System(TWELVE, [TWELVE])).filled()
        self.assertEqual(filled.writes().lots(), [[name] for name in TWELVE])
        self.assertEqual(two_of(Many(7, TWELVE).system()).filled().writes().told(), Many(6, TWELVE).system().told())
        self.assertIs(two_of(System(["a"], [["a"]])).is_full(), True)


class Votes(Refusals):
    def test_weights_and_two_marks(self):
        source = random.Random(17)
        seen = [0, 0]
        for turn in range(150):
            names = TWELVE[:source.randint(1, 6)]
            votes = [(name, source.choice([0, 1, 2, 3, 9, 99])) for name in names]
            total = sum(weight for name, weight in votes)
            reads = source.randint(0, total + 1)
            writes = max(0, total - reads + source.randint(-1, 3))
            good = reads + writes > total
            seen[good] += 1
            if not good:
                self.assertEqual(self.refused(NoNumber, by_votes, votes, reads, writes).found, writes)
                continue
            two = by_votes(votes, reads, writes)
            self.assertIs(type(two), Two)
            weight = dict(votes)
            for system, mark in ((two.reads(), reads), (two.writes(), writes)):
                right = least_sets(names, lambda some: sum(weight[name] for name in some) >= mark)
                self.assertEqual((system.houses(), system.lots()), (names, right))
            for one, other in itertools.product(two.reads().lots(), two.writes().lots()):
                self.assertTrue(set(one) & set(other))
        self.assertGreater(min(seen), 20)

    def test_edges(self):
        votes = [("b", 3), ("a", 2), ("c", 0)]
        right = ((("b", "a", "c"), (("b",), ("a",))), (("b", "a", "c"), (("b", "a"),)))
        self.assertEqual(by_votes(votes, 2, 4).told(), right)
        self.assertEqual(by_votes(writes=4, reads=2, rows=tuple(votes)).told(), by_votes(votes, 2, 4).told())
        self.refused(NoNumber, by_votes, votes, 2, 3)
        self.refused(NoNumber, by_votes, votes, 0, 5)
        self.assertEqual(by_votes(votes, 0, 6).told()[0][1], ((),))
        self.assertEqual(by_votes(votes, 0, 6).told()[1][1], ())
        self.assertEqual(by_votes(votes, 1188, 1188).told()[1][1], ())
        self.assertEqual(by_votes([("a", 0)], 0, 1).told(), ((("a",), ((),)), (("a",), ())))
        self.refused(NoNumber, by_votes, [("a", 0)], 0, 0)
        every = [(name, 99) for name in TWELVE]
        self.assertEqual(by_votes(every, 1188, 1).told()[1][1], tuple((name,) for name in TWELVE))
        mark = 1188 - 1000
        self.refused_with(NoNumber, mark, by_votes, every, 1000, mark)

    def test_refused_as_the_plans(self):
        votes = [("a", 1), ("b", 1)]
        for mark in other_things() + texts() + rows() + [-1, 1189, 10**30 - 1]:
            self.refused_with(NoNumber, mark, by_votes, votes, mark, 2)
            self.refused_with(NoNumber, mark, by_votes, votes, 2, mark)
            self.refused_with(NoNumber, mark, by_votes, None, mark, None)
            # The second mark is looked at only when the rows have been let by with the first one.
            self.refused_with(NoPlan, "x", by_votes, "x", 2, mark)
        for thing in other_things() + texts() + rows() + whole_numbers() + [[("a", 100)], [("a", -1)], [["a", 1]]]:
            self.refused_with(NoPlan, thing, by_votes, thing, 0, -1)
        twice = [("a", 1), ("b", 1), ("a", 1)]
        self.assertEqual(self.refused(NoHouses, by_votes, twice, 3, -1).found, ["a", "b", "a"])
        self.assertEqual(votes, [("a", 1), ("b", 1)])

    def test_what_is_handed_in_stays(self):
        votes = [("a", 1), ("b", 1)]
        two = by_votes(votes, 1, 2)
        votes.clear()
        self.assertEqual(two.reads().lots(), [["a"], ["b"]])


class Grids(Refusals):
    def test_rows_and_pillars(self):
        for high in range(1, 5):
            for wide in range(1, 5):
                if high * wide <= 12:
                    grid = [TWELVE[at * wide:at * wide + wide] for at in range(high)]
                    two = by_grid(grid)
                    pillars = [[row[at] for row in grid] for at in range(wide)]
                    self.assertIs(type(two), Two)
                    self.assertEqual(two.told()[0], System(TWELVE[:high * wide], grid).told())
                    self.assertEqual(two.told()[1], System(TWELVE[:high * wide], pillars).told())
                    self.assertEqual(by_grid(rows=tuple(tuple(row) for row in grid)).told(), two.told())

    def test_edges(self):
        self.assertEqual(by_grid([["a"]]).told(), ((("a",), (("a",),)),) * 2)
        self.assertEqual(by_grid([["b", "a"]]).told(), ((("b", "a"), (("b", "a"),)), (("b", "a"), (("b",), ("a",)))))
        self.assertEqual(by_grid([["b"], ["a"]]).told(), ((("b", "a"), (("b",), ("a",))), (("b", "a"), (("b", "a"),))))
        grid = [["a", "b"], ["c", "d"]]
        two = by_grid(grid)
        grid[0].clear()
        self.assertEqual(two.reads().lots(), [["a", "b"], ["c", "d"]])
        self.assertEqual(two.writes().lots(), [["a", "c"], ["b", "d"]])

    def test_refused_as_the_plan(self):
        # What comes as rows with a thing that is no name is refused further below.
        bad = [thing for thing in rows() if thing not in ([("mill",)], twenty_deep())] + [
            [["a"]] * 5, [["a", "b", "c", "d", "e"]], [["a", "b"], ["c"]], [[]], [["a"], None], ["ab", "cd"],
            [("a",), {}],
        ]
        for thing in other_things() + texts() + whole_numbers() + bad:
            self.refused_with(NoPlan, thing, by_grid, thing)
        for grid, found in (
            ([["a", "b"], ["c", "a"]], ["a", "b", "c", "a"]), ([["a"], ["lots"]], ["a", "lots"]), ([[None]], [None]),
            ((("a", 1), ("b", 2)), ["a", 1, "b", 2]), ([TWELVE[:4]] * 4, TWELVE[:4] * 4),
            (twenty_deep(), [twenty_deep()[0][0]]),
        ):
            self.assertEqual(self.refused(NoHouses, by_grid, grid).found, found)
            with self.assertRaises(NoHouses):
                Grid(grid)


class HouseOf(Refusals):
    def test_all_masks_of_six_houses_and_some_of_twelve(self):
        masks = list(range(64)) + [64, 2048, 2047, 4094, 4095, 1365, 2730]
        houses = Houses(TWELVE)
        for one, other in itertools.product(masks, repeat=2):
            both = [name for name in houses.set_of(one) if name in houses.set_of(other)]
            right = houses.number(both[0]) if both else None
            told = house_of(one, other)
            self.assertEqual((type(told), told), (type(right), right))
        self.assertEqual(house_of(other=4095, one=2048), 11)
        self.assertIsNone(house_of(0, 0))
        self.assertIsNone(house_of(0, 4095))
        self.assertEqual(house_of(4095, 4095), 0)

    def test_no_masks(self):
        for thing in other_things() + texts() + rows() + [-1, 4096, 10**30 - 1, 1 - 10**30]:
            self.refused_with(NoNumber, thing, house_of, thing, 1)
            self.refused_with(NoNumber, thing, house_of, 4095, thing)
            self.refused_with(NoNumber, thing, house_of, thing, None)
            self.refused_with(NoNumber, thing, house_of, thing, 4096)


def plain_rows(reads, writes):
    return [
        (read, write, next(name for name in read if name in write)) for read in reads.lots() for write in writes.lots()
    ]


def plain_shows(reads, writes, thing):
    """Whether the thing shows two kinds, looked at plainly."""
    pairs = [(read, write) for read in reads.lots() for write in writes.lots()]
    if reads.houses() != writes.houses() or type(thing) is not list or len(thing) != len(pairs):
        return False
    for row, (read, write) in zip(thing, pairs):
        if type(row) is not tuple or len(row) != 3 or type(row[0]) is not list or type(row[1]) is not list:
            return False
        if row[0] != read or row[1] != write or type(row[2]) is not str:
            return False
        if row[2] not in read or row[2] not in write:
            return False
    return True


class Rows(Refusals):
    def test_rows(self):
        for two in some_twos(100):
            told = rows_of(two)
            self.assertEqual((type(told), told), (list, plain_rows(two.reads(), two.writes())))
            for row in told:
                self.assertEqual([type(part) for part in row], [list, list, str])
                self.assertIs(type(row), tuple)
            self.assertIs(shows_two(two.reads(), two.writes(), told), True)
            self.assertEqual(rows_of(two=two), told)

    def test_edges(self):
        none, empty = System(ABC, []), System(ABC, [[]])
        for two in (Two(none, none), Two(none, empty), Two(empty, none), Two(TWO_OF_THREE, none)):
            self.assertEqual(rows_of(two), [])
            self.assertIs(shows_two(two.reads(), two.writes(), []), True)
            self.assertIs(shows_two(two.reads(), two.writes(), ()), False)
            self.assertIs(shows_two(two.reads(), two.writes(), [([], [], "a")]), False)
        self.assertIs(shows_two(empty, empty, []), False)
        self.assertIs(shows_two(empty, empty, [([], [], None)]), False)
        self.assertIs(shows_two(empty, empty, [([], [], "a")]), False)
        self.assertEqual(rows_of(by_grid([["b", "a"]])), [(["b", "a"], ["b"], "b"), (["b", "a"], ["a"], "a")])
        every = System(TWELVE, [TWELVE])
        self.assertEqual(rows_of(two_of(every)), [(TWELVE, TWELVE, "mill")])
        for name in TWELVE:
            self.assertIs(shows_two(thing=[(TWELVE, TWELVE, name)], writes=every, reads=every), True)

    def test_all_lists_are_of_their_own(self):
        two = two_of(TWO_OF_THREE)
        told = rows_of(two)
        right = copy.deepcopy(told)
        told[0][0].clear()
        self.assertEqual((told[0][1], told[1:]), (right[0][1], right[1:]))
        told[0][1].clear()
        self.assertEqual(told[1:], right[1:])
        told.clear()
        self.assertEqual(rows_of(two), right)
        self.assertEqual(two.reads().lots(), TWO_OF_THREE.lots())

    def test_any_house_of_both_shows_it(self):
        source = random.Random(19)
        for two in some_twos(60):
            told = [(read, write, source.choice([name for name in read if name in write]))
                    for read, write, house in rows_of(two)]
            self.assertIs(shows_two(two.reads(), two.writes(), told), True)

    def test_all_houses_in_one_row(self):
        reads, writes = System(ABC, [["a", "b"], ["b", "c"]]), System(ABC, [["b"], ABC])
        told = rows_of(Two(reads, writes))
        for at, (read, write, first) in enumerate(told):
            for house in ABC + ["d", "", None, 0, ["b"], ("b",)]:
                thing = told[:at] + [(read, write, house)] + told[at + 1:]
                self.assertIs(shows_two(reads, writes, thing), house in read and house in write)

    def test_things_that_are_nearly_right(self):
        seen = 0
        for two in some_twos(40, 4) + [two_of(TWO_OF_THREE)]:
            if 0 < len(rows_of(two)) < 12:
                for thing in nearly(rows_of(two)):
                    seen += 1
                    self.assertIs(shows_two(two.reads(), two.writes(), thing),
                                  plain_shows(two.reads(), two.writes(), thing), thing)
        self.assertGreater(seen, 1000)

    def test_systems_that_are_no_two_kinds(self):
        for reads, writes in some_pairs(60, 5):
            if plain_apart(reads, writes) is not None:
                told = [
                    (read, write, next((name for name in read if name in write), "mill"))
                    for read in reads.lots() for write in writes.lots()
                ]
                self.assertIs(shows_two(reads, writes, told), False)
                self.assertIs(shows_two(reads, writes, []), False)
        one, other = System(["a", "b"], [["a", "b"]]), System(["b", "a"], [["b", "a"]])
        self.assertIs(shows_two(one, other, [(["a", "b"], ["b", "a"], "a")]), False)
        self.assertIs(shows_two(one, one, [(["a", "b"], ["a", "b"], "b")]), True)
        self.assertIs(shows_two(System(["a"], []), System(["b"], []), []), False)
        self.assertIs(shows_two(System(["a"], []), System(["a", "b"], []), []), False)

    def test_any_thing(self):
        for system in (TWO_OF_THREE, System(ABC, []), System(ABC, [["a"]])):
            one = system.lots() == [["a"]]
            for thing in other_things() + rows() + texts() + whole_numbers():
                self.assertIs(shows_two(system, system, thing), thing == [] and system.lots() == [])
                self.assertIs(shows_two(system, system, [thing]), False)
                self.assertIs(shows_two(system, system, [(["a"], ["a"], thing)]), one and thing == "a")
                self.assertIs(shows_two(system, system, [(thing, ["a"], "a")]), one and thing == ["a"])

    def test_nothing_is_changed(self):
        thing = rows_of(two_of(TWO_OF_THREE))
        before = copy.deepcopy(thing)
        shows_two(TWO_OF_THREE, TWO_OF_THREE, thing)
        self.assertEqual(thing, before)

    def test_many_rows(self):
        sets = [some for some in all_sets(TWELVE) if len(some) >= 7][:300]
        system = System(TWELVE, sets)
        told = rows_of(two_of(system))
        self.assertEqual(len(told), 90000)
        self.assertIs(shows_two(system, system, told), True)
        told[-1], told[-2] = told[-2], told[-1]
        self.assertIs(shows_two(system, system, told), False)


class OfPlans(Refusals):
    def test_votes_are_as_the_plans_tell(self):
        votes = [("a", 2), ("b", 1), ("c", 1)]
        two = by_votes(votes, 3, 2)
        self.assertEqual(two.told(), (Weights(3, votes).system().told(), Weights(2, votes).system().told()))

    def test_plans_are_no_systems(self):
        plan = Lots(ABC, [["a"]])
        self.refused_with(NoLots, plan, two_of, plan)
        self.refused_with(NoLots, plan, Two, plan.system(), plan)


if __name__ == "__main__":
    unittest.main()
