"""Promises [7], [8], [9] and [30] to [37]: plans."""

import copy
import itertools
import random
import unittest

from alwaysmeet.errors import NoHouse, NoHouses, NoLots, NoNumber, NoPlan, NoSet, Twice
from alwaysmeet.plans import Grid, Lots, Many, Plan, Put, Tree, Wall, Weights, plan_of
from alwaysmeet.systems import System

from planmodel import decides_by, houses_by, random_simple, random_tree, some_plans
from things import TWELVE, Refusals, all_sets, least_sets, other_things, rows, texts, whole_numbers

ABC = ["a", "b", "c"]
KINDS = [
    (Lots, "lots"), (Many, "many"), (Weights, "weights"), (Grid, "grid"), (Wall, "wall"), (Tree, "tree"), (Put, "put"),
]


def one_of_each():
    return [
        Lots(ABC, [["a", "b"], ["c"]]), Many(2, ABC), Weights(5, [("a", 3), ("b", 2), ("c", 99)]),
        Grid([["a", "b"], ["c", "d"]]), Wall([["a"], ["b", "c"], ["d"]]), Tree("a", [Tree("b"), Tree("c")]),
        Put("a", Many(1, ["a", "b"]), Many(2, ["a", "c"])),
    ]


def no_rows():
    """Things of every kind that are no list and no tuple."""
    return other_things() + texts() + whole_numbers()


def chain(names):
    """A tree in which each has one way, the last name the deepest one."""
    tree = None
    for name in names[::-1]:
        tree = Tree(name, None if tree is None else [tree])
    return tree


def puts_within(many):
    """A plan with so many puts within one another."""
    plan = Many(1, ["a"])
    for turn in range(many):
        plan = Put("a", plan, Many(1, ["a"]))
    return plan


class Common(Refusals):
    def test_kinds_stand_under_plan_and_not_under_one_another(self):
        for plan, (kind, word) in zip(one_of_each(), KINDS):
            self.assertIs(type(plan), kind)
            self.assertIsInstance(plan, Plan)
            self.assertEqual(plan.word(), word)
            for other, its_word in KINDS:
                self.assertEqual(issubclass(kind, other), kind is other)

    def test_what_a_plan_decides_its_system_decides(self):
        for plan in some_plans() + one_of_each():
            names = plan.houses()
            tale = plan.told()
            system = plan.system()
            self.assertIs(type(names), list)
            self.assertEqual(names, houses_by(tale))
            self.assertIs(type(system), System)
            self.assertEqual(system.houses(), names)
            self.assertEqual(system.lots(), least_sets(names, lambda some: decides_by(tale, some)))
            for some in all_sets(names):
                self.assertIs(plan.decides(some), decides_by(tale, some), (tale, some))
                self.assertIs(plan.decides(tuple(some[::-1])), system.decides(some))

    def test_plans_of_twelve_houses(self):
        source = random.Random(5)
        for turn in range(12):
            plan = random_simple(source, TWELVE)
            table = plan.system().table()
            for mask in source.sample(range(2 ** len(plan.houses())), 2):
                some = [name for at, name in enumerate(plan.houses()) if mask >> at & 1]
                self.assertIs(table[mask], decides_by(plan.told(), some))

    def test_refused_as_a_set(self):
        for plan in one_of_each():
            for found in no_rows():
                self.refused_with(NoSet, found, plan.decides, found)
            for found in ["x", "", "lots"] + no_rows() + rows():
                if found != "a":
                    self.refused_with(NoHouse, found, plan.decides, ["a", found, "a"])
            again = "".join(["a"])
            self.refused_with(Twice, again, plan.decides, ("a", again, "x"))
            self.assertIs(plan.decides(names=plan.houses()), True)

    def test_lists_are_new_ones_each_time(self):
        for plan in one_of_each():
            was = plan.houses()
            plan.houses().clear()
            plan.system().lots().clear()
            self.assertEqual(plan.houses(), was)
            self.assertEqual(plan.told(), plan.told())
            self.assertEqual(plan.system().told(), plan.system().told())


class LotsAndMany(Refusals):
    def test_lots(self):
        plan = Lots(("c", "a", "b"), [["b", "a"], (), ["a", "c", "b"]])
        self.assertEqual(plan.told(), ("lots", ("c", "a", "b"), ((), ("a", "b"), ("c", "a", "b"))))
        self.assertEqual(plan.system().lots(), [[]])
        self.assertEqual(Lots(["a"], []).told(), ("lots", ("a",), ()))
        self.assertEqual(Lots(["a"], []).system().lots(), [])
        self.assertEqual(Lots(lots=[["a"]], names=["a"]).system().lots(), [["a"]])

    def test_a_thousand_lots_and_one_more(self):
        lots = all_sets(TWELVE)[1:1002]
        self.assertEqual(len(Lots(TWELVE, lots[:1000]).told()[2]), 1000)
        self.assertEqual(Lots(TWELVE, lots[:1000]).system().lots(), [[name] for name in TWELVE])
        self.refused_with(NoLots, lots, Lots, TWELVE, lots)

    def test_lots_are_refused_as_a_system_is(self):
        for found in [[], ["a", "a"], TWELVE + ["more"], ["put"]] + no_rows():
            self.refused_with(NoHouses, found, Lots, found, [])
            self.refused_with(NoHouses, found, Lots, found, None)
        for found in no_rows():
            self.refused_with(NoLots, found, Lots, ABC, found)
            self.refused_with(NoSet, found, Lots, ABC, [["a"], found, ["a"]])
        for found in no_rows() + rows():
            if found != "a":
                self.refused_with(NoHouse, found, Lots, ABC, [["a"], ["b", found]])
        again = ("b", "a")
        self.refused_with(Twice, again, Lots, ABC, [["a", "b"], again, None])
        self.assertEqual(self.refused(Twice, Lots, ABC, [["a", "a"]]).found, "a")

    def test_lots_are_kept_as_copies(self):
        names, lots = ["a", "b"], [["b"]]
        plan = Lots(names, lots)
        names.append("c")
        lots[0].clear()
        lots.clear()
        self.assertEqual(plan.told(), ("lots", ("a", "b"), (("b",),)))
        self.assertEqual(plan.system().lots(), [["b"]])

    def test_many(self):
        for many in range(1, 7):
            for count in range(many + 1):
                plan = Many(count, TWELVE[:many])
                self.assertEqual(plan.told(), ("many", count, tuple(TWELVE[:many])))
                lots = [list(lot) for lot in itertools.combinations(TWELVE[:many], count)]
                self.assertEqual(plan.system().lots(), lots)
        self.assertEqual(len(Many(6, TWELVE).system().lots()), 924)
        self.assertEqual(Many(names=("b", "a"), count=2).system().lots(), [["b", "a"]])

    def test_many_is_refused(self):
        for found in [[], ["a", "a"], ["a", None], [["a"]], TWELVE + ["more"]] + no_rows():
            self.refused_with(NoHouses, found, Many, 1, found)
            self.refused_with(NoHouses, found, Many, None, found)
            self.refused_with(NoHouses, found, Many, -1, found)
        for found in other_things() + texts() + rows() + [-1, 4, 5, 10**30 - 1]:
            self.refused_with(NoNumber, found, Many, found, ABC)
        for many in range(1, 13):
            found = many + 1
            self.refused_with(NoNumber, found, Many, found, TWELVE[:many])
            self.assertEqual(Many(many, TWELVE[:many]).system().lots(), [TWELVE[:many]])

    def test_many_is_kept_as_a_copy(self):
        names = ["a", "b"]
        plan = Many(1, names)
        names.append("c")
        self.assertEqual(plan.told(), ("many", 1, ("a", "b")))
        self.assertEqual(plan.houses(), ["a", "b"])


class ByWeights(Refusals):
    def test_weights(self):
        plan = Weights(5, [("c", 3), ("a", 2), ("b", 0)])
        self.assertEqual(plan.told(), ("weights", 5, (("c", 3), ("a", 2), ("b", 0))))
        self.assertEqual(plan.houses(), ["c", "a", "b"])
        self.assertEqual(plan.system().lots(), [["c", "a"]])
        self.assertIs(plan.decides(["c", "b"]), False)
        self.assertEqual(Weights(rows=(("a", 1),), mark=1).told(), ("weights", 1, (("a", 1),)))

    def test_edges(self):
        self.assertEqual(Weights(0, [("a", 0)]).system().lots(), [[]])
        self.assertEqual(Weights(1, [("a", 0)]).system().lots(), [])
        self.assertEqual(Weights(99, [("a", 99)]).system().lots(), [["a"]])
        full = [(name, 99) for name in TWELVE]
        self.assertEqual(Weights(1188, full).system().lots(), [TWELVE])
        self.assertEqual(Weights(1188, full[:11]).system().lots(), [])

    def test_marks_are_refused_first(self):
        for found in other_things() + texts() + rows() + [-1, 1189, 10**30 - 1]:
            self.refused_with(NoNumber, found, Weights, found, [("a", 1)])
            self.refused_with(NoNumber, found, Weights, found, None)

    def test_what_are_no_rows(self):
        wrong = [
            [], (), [("a", 100)], [("a", -1)], [["a", 1]], [("a",)], [("a", 1, 1)], [("a", True)], [("a", None)],
            [("a", "1")], [(1, "a")], [("A", 1)], [("lots", 1)], [("abcdefg", 1)], [("", 1)], [(None, 1)],
            [("a", 1), None], ["a", 1], [(["a"], 1)], [("a", [1])], [("a", 10**30 - 1)], [((), ())], ["ab"],
            [(name, 1) for name in TWELVE + ["more"]], [("a", 1)] * 13, [("a", 1), ("a", 100)], [("a", 1)] * 4100,
        ]
        for found in wrong + no_rows() + rows():
            self.refused_with(NoPlan, found, Weights, 1, found)

    def test_two_names_alike(self):
        found = self.refused(NoHouses, Weights, 1, (("a", 1), ("b", 2), ("a", 3))).found
        self.assertEqual((type(found), found), (list, ["a", "b", "a"]))
        self.assertEqual(self.refused(NoHouses, Weights, 0, [("b", 0)] * 12).found, ["b"] * 12)

    def test_kept_as_a_copy(self):
        weights = [("a", 1), ("b", 2)]
        plan = Weights(2, weights)
        weights[0] = ("c", 3)
        self.assertEqual(plan.told(), ("weights", 2, (("a", 1), ("b", 2))))
        self.assertEqual(plan.system().lots(), [["b"]])


class Rows(Refusals):
    def test_a_grid(self):
        plan = Grid([["a", "b", "c"], ("d", "e", "f")])
        self.assertEqual(plan.told(), ("grid", (("a", "b", "c"), ("d", "e", "f"))))
        self.assertEqual(plan.houses(), list("abcdef"))
        self.assertEqual(plan.system().lots(), [
            ["a", "b", "c", "d"], ["a", "b", "c", "e"], ["a", "b", "c", "f"],
            ["a", "d", "e", "f"], ["b", "d", "e", "f"], ["c", "d", "e", "f"],
        ])
        self.assertEqual(Grid(rows=(("a",),)).system().lots(), [["a"]])

    def test_grids_of_one_and_of_four_rows(self):
        for high, wide in itertools.product(range(1, 5), repeat=2):
            if high * wide <= 12:
                told = [TWELVE[at * wide:at * wide + wide] for at in range(high)]
                plan = Grid(told)
                self.assertEqual(plan.houses(), TWELVE[:high * wide])
                self.assertEqual(plan.told(), ("grid", tuple(tuple(row) for row in told)))
                self.assertTrue(plan.system().meets())
            else:
                things = [f"a{at}" for at in range(high * wide)]
                told = [things[at * wide:at * wide + wide] for at in range(high)]
                self.assertEqual(self.refused(NoHouses, Grid, told).found, things)

    def test_a_wall(self):
        plan = Wall((["a"], ("b", "c"), ["d", "e"]))
        self.assertEqual(plan.told(), ("wall", (("a",), ("b", "c"), ("d", "e"))))
        self.assertEqual(plan.houses(), list("abcde"))
        self.assertEqual(plan.system().lots(), [
            ["d", "e"], ["a", "b", "d"], ["a", "b", "e"], ["a", "c", "d"], ["a", "c", "e"], ["b", "c", "d"],
            ["b", "c", "e"],
        ])
        self.assertEqual(Wall(rows=[["a", "b"]]).system().lots(), [["a", "b"]])

    def test_walls_of_one_and_of_five_rows(self):
        self.assertEqual(Wall([TWELVE[:6]]).system().lots(), [TWELVE[:6]])
        self.assertEqual(Wall([TWELVE[:6], TWELVE[6:]]).houses(), TWELVE)
        five = Wall([[name] for name in "abcde"])
        self.assertEqual(five.system().lots(), [["e"]])
        self.assertEqual(Wall([["a"], ["b", "c"], ["d"], ["e", "f", "g"], ["h"]]).system().lots(), [["h"]])

    def test_what_are_no_rows_of_a_grid(self):
        wrong = [
            [], (), [[]], [[], []], [["a"], []], [["a"], ["b", "c"]], [["a", "b"], ["c"]], [list("abcde")],
            [["a"], ["b"], ["c"], ["d"], ["e"]], [["a"], None], [["a"], "b"], ["a"], "ab", [{"a": 1}],
            [[1], [2], [3], [4], [5]], [None, None], [["a", "a"], ["b"]], [[0] * 4100], [[0]] * 4100,
        ]
        for found in wrong + no_rows():
            self.refused_with(NoPlan, found, Grid, found)

    def test_what_are_no_rows_of_a_wall(self):
        wrong = [
            [], (), [[]], [["a"], []], [list("abcdefg")], [[name] for name in "abcdef"], [["a"], None], [["a"], "b"],
            ["a"], [{"a": 1}], [[0] * 7], [[0]] * 6, [["a", "a"], []], [[0] * 4100], [[0]] * 4100,
        ]
        for found in wrong + no_rows():
            self.refused_with(NoPlan, found, Wall, found)

    def test_things_that_come_as_no_houses(self):
        for kind in (Grid, Wall):
            for thing in ["", "A", "lots", "abcdefg", "a", 1] + other_things() + rows() + whole_numbers():
                found = self.refused(NoHouses, kind, [["a"], (thing,), ["b"]]).found
                self.assertEqual((type(found), len(found), found[0], found[2]), (list, 3, "a", "b"))
                self.assertIs(found[1], thing)
        self.assertEqual(self.refused(NoHouses, Grid, [["a", "b"], ["b", "c"]]).found, ["a", "b", "b", "c"])
        thirteen = list("abcdefghijklm")
        self.assertEqual(self.refused(NoHouses, Wall, [thirteen[:6], thirteen[6:12], ["m"]]).found, thirteen)

    def test_kept_as_copies(self):
        for kind in (Grid, Wall):
            told = [["a", "b"], ["c", "d"]]
            plan = kind(told)
            was = (plan.told(), plan.houses(), plan.system().told())
            told[0][0] = "e"
            told.pop()
            self.assertEqual((plan.told(), plan.houses(), plan.system().told()), was)


class Trees(Refusals):
    def test_one_level(self):
        for tree in (Tree("a"), Tree("a", None), Tree("a", []), Tree("a", ()), Tree(root="a", ways=None)):
            self.assertEqual(tree.told(), ("tree", "a", ()))
            self.assertEqual(tree.houses(), ["a"])
            self.assertEqual(tree.system().lots(), [["a"]])

    def test_two_levels(self):
        tree = Tree("a", [Tree("b"), Tree("c"), Tree("d")])
        self.assertEqual(tree.told(), ("tree", "a", (("tree", "b", ()), ("tree", "c", ()), ("tree", "d", ()))))
        self.assertEqual(tree.houses(), list("abcd"))
        self.assertEqual(tree.system().lots(), [["a", "b"], ["a", "c"], ["a", "d"], ["b", "c", "d"]])
        self.assertEqual(Tree("a", (Tree("b"),)).system().lots(), [["b"]])

    def test_the_order_of_the_houses(self):
        tree = Tree("z", [Tree("m", [Tree("b"), Tree("a")]), Tree("c", [Tree("x")])])
        self.assertEqual(tree.houses(), ["z", "m", "b", "a", "c", "x"])

    def test_four_levels_and_five(self):
        four = chain(list("abcd"))
        self.assertEqual(four.houses(), list("abcd"))
        self.assertEqual(four.system().lots(), [["d"]])
        for ways in ([four], (four,), [Tree("e"), four], [four, Tree("a"), four]):
            self.refused_with(NoPlan, ways, Tree, "e", ways)
        unlike = Tree("a", [Tree("b"), chain(["c", "d", "e"]), Tree("f")])
        self.assertEqual(unlike.houses(), list("abcdef"))
        self.refused(NoPlan, Tree, "k", [unlike])
        wide = Tree("a", [chain(["b", "c", "d"]), chain(["e", "f", "g"]), chain(["h", "i", "j"])])
        self.assertEqual(wide.houses(), list("abcdefghij"))
        self.refused(NoPlan, Tree, "k", [wide])

    def test_three_ways_and_four(self):
        ways = [Tree(name) for name in "bcde"]
        self.assertEqual(Tree("a", ways[:3]).houses(), list("abcd"))
        self.refused_with(NoPlan, ways, Tree, "a", ways)
        more = [Tree("a")] * 4100
        self.refused_with(NoPlan, more, Tree, "a", more)

    def test_the_root_is_refused_first(self):
        for found in ["", "A", "tree", "abcdefg", "a b"] + other_things() + rows() + whole_numbers():
            self.refused_with(NoPlan, found, Tree, found)
            self.refused_with(NoPlan, found, Tree, found, 7)

    def test_what_are_no_ways(self):
        for found in [thing for thing in no_rows() if thing is not None] + [Tree("b"), Many(1, ["b"])]:
            self.refused_with(NoPlan, found, Tree, "a", found)
        for thing in no_rows() + rows() + [("tree", "b", ())]:
            if not isinstance(thing, Tree):
                for ways in ([thing], (Tree("b"), thing), [thing, Tree("a")]):
                    self.refused_with(NoPlan, ways, Tree, "a", ways)

    def test_names_that_come_as_no_houses(self):
        found = self.refused(NoHouses, Tree, "a", [Tree("b"), Tree("a")]).found
        self.assertEqual((type(found), found), (list, ["a", "b", "a"]))
        self.assertEqual(self.refused(NoHouses, Tree, "a", (Tree("b"), Tree("b"))).found, ["a", "b", "b"])
        ways = [Tree(names[0], [Tree(name) for name in names[1:]]) for names in ("bcde", "fghi", "jklm")]
        self.assertEqual(self.refused(NoHouses, Tree, "a", ways).found, list("abcdefghijklm"))
        self.assertEqual(len(Tree("a", ways[:2] + [Tree("j", [Tree("k"), Tree("l")])]).houses()), 12)

    def test_kept_as_a_copy(self):
        ways = [Tree("b"), Tree("c")]
        tree = Tree("a", ways)
        ways.append(Tree("d"))
        ways[0] = Tree("e")
        self.assertEqual(tree.houses(), ["a", "b", "c"])
        self.assertEqual(tree.system().lots(), [["a", "b"], ["a", "c"], ["b", "c"]])


class Puts(Refusals):
    def test_a_put(self):
        outer, inner = Many(2, ["a", "b", "c"]), Many(1, ["d", "e"])
        plan = Put("b", outer, inner)
        self.assertEqual(plan.told(), ("put", "b", ("many", 2, ("a", "b", "c")), ("many", 1, ("d", "e"))))
        self.assertEqual(plan.houses(), ["a", "d", "e", "c"])
        self.assertEqual(plan.system().lots(), [["a", "d"], ["a", "e"], ["a", "c"], ["d", "c"], ["e", "c"]])
        self.assertEqual(Put(inner=inner, outer=outer, name="c").houses(), ["a", "b", "d", "e"])

    def test_the_inner_one_has_the_name_that_goes_out(self):
        plan = Put("a", Many(2, ["a", "b", "c"]), Many(2, ["d", "a"]))
        self.assertEqual(plan.houses(), ["d", "a", "b", "c"])
        self.assertEqual(plan.system().lots(), [["b", "c"], ["d", "a", "b"], ["d", "a", "c"]])
        self.assertIs(plan.decides(["a", "b"]), False)

    def test_an_inner_one_that_always_or_never_decides(self):
        outer = Many(2, ["a", "b", "c"])
        self.assertEqual(Put("a", outer, Many(0, ["d"])).system().lots(), [["b"], ["c"]])
        self.assertEqual(Put("a", outer, Lots(["d"], [])).system().lots(), [["b", "c"]])

    def test_puts_within_one_another(self):
        for many in range(1, 5):
            self.assertEqual(puts_within(many).system().lots(), [["a"]])
        four, simple = puts_within(4), Many(1, ["b"])
        self.refused_with(NoPlan, four, Put, "a", four, simple)
        self.refused_with(NoPlan, four, Put, "b", simple, four)
        self.assertEqual(Put("a", puts_within(3), puts_within(3)).houses(), ["a"])
        self.assertEqual(Put("b", simple, puts_within(3)).houses(), ["a"])
        deep = Put("a", simple_outer(), Put("b", Many(1, ["b"]), Put("c", Many(1, ["c"]), puts_within(1))))
        self.assertEqual(deep.houses(), ["a", "x"])
        self.refused_with(NoPlan, deep, Put, "a", simple_outer(), deep)

    def test_what_is_no_plan(self):
        good = Many(1, ["a", "b"])
        things = [thing for thing in other_things() if not isinstance(thing, Plan)]
        for found in things + texts() + whole_numbers() + rows() + [good.told()]:
            self.refused_with(NoPlan, found, Put, "a", found, good)
            self.refused_with(NoPlan, found, Put, "a", found, None)
            self.refused_with(NoPlan, found, Put, "x", good, found)
            self.refused_with(NoPlan, found, Put, None, good, found)

    def test_what_is_no_house_of_the_outer_one(self):
        outer, inner = Many(1, ["a", "b"]), Many(1, ["a", "c"])
        for found in ["c", "", "A", "many"] + other_things() + rows() + whole_numbers():
            self.refused_with(NoHouse, found, Put, found, outer, inner)

    def test_names_that_come_as_no_houses(self):
        found = self.refused(NoHouses, Put, "a", Many(1, ["a", "b"]), Many(1, ["c", "b"])).found
        self.assertEqual((type(found), found), (list, ["c", "b", "b"]))
        letters = list("abcdefghijklm")
        found = self.refused(NoHouses, Put, "b", Many(1, letters[:3]), Many(1, ["b"] + letters[3:])).found
        self.assertEqual(found, ["a", "b"] + letters[3:] + ["c"])
        self.assertEqual(len(Put("a", Many(1, ["a", "b"]), Many(1, letters[2:])).houses()), 12)

    def test_twelve_houses_and_fifteen_puts(self):
        plan = full(4, TWELVE)
        self.assertEqual(plan.houses(), TWELVE)
        table = plan.system().table()
        for mask in range(0, 4096, 23):
            some = [name for at, name in enumerate(TWELVE) if mask >> at & 1]
            self.assertIs(table[mask], decides_by(plan.told(), some))
        self.refused_with(NoPlan, plan, Put, "mill", plan, Tree("a"))


def simple_outer():
    return Many(1, ["a", "x"])


def full(puts, names):
    """A plan of just these houses with so many puts within one another, on both sides of each."""
    if puts == 0:
        return Many((len(names) + 1) // 2, names)
    cut = len(names) // 2
    gap = "gap" + "abcd"[puts - 1]
    return Put(gap, full(puts - 1, names[:cut] + [gap]), full(puts - 1, names[cut:]))


class Telling(Refusals):
    def test_plan_of_what_is_told(self):
        for plan in some_plans() + one_of_each() + [puts_within(4), full(4, TWELVE), chain(list("abcd"))]:
            again = plan_of(plan.told())
            self.assertIs(type(again), type(plan))
            self.assertEqual(again.told(), plan.told())
            self.assertEqual(again.houses(), plan.houses())
            self.assertEqual(again.system().told(), plan.system().told())
        self.assertEqual(plan_of(told=("tree", "a", ())).houses(), ["a"])
        three = Tree("a", [Tree("b"), Tree("c"), Tree("d", [Tree("e"), Tree("f"), Tree("g")])])
        self.assertEqual(plan_of(three.told()).told(), three.told())

    def test_all_is_tuples(self):
        def lists_in(thing):
            return isinstance(thing, (list, dict)) or isinstance(thing, tuple) and any(lists_in(part) for part in thing)

        for plan in some_plans() + one_of_each():
            self.assertIs(type(plan.told()), tuple)
            self.assertFalse(lists_in(plan.told()))
            self.assertEqual(plan.told()[0], plan.word())

    def test_things_that_no_plan_tells(self):
        for thing in no_rows() + rows() + [()] + [(word,) for kind, word in KINDS]:
            self.refused_with(NoPlan, thing, plan_of, thing)
        tree = ("tree", "a", ())
        wrong = [
            ("lots", ("a", "b"), (("b", "a"),)), ("lots", ("a", "b"), (("a", "b"), ("a",))),
            ("lots", ("a", "b"), (("a",), ("a",))), ("lots", ["a"], ()), ("lots", ("a",), []),
            ("lots", ("a",), (["a"],)),
            ("lots", ("a",), (("b",),)), ("lots", (), ()), ("lots", ("a",)), ("lots", ("a",), (), ()),
            ("lots", "a", ()),
            ("lots", ("a",), "a"), ("lots", ("a",), ("a",)), ("Lots", ("a",), ()), ("lots", ("a",), ((),) * 2),
            ("many", True, ("a",)), ("many", False, ("a",)), ("many", "1", ("a",)), ("many", 2, ("a",)),
            ("many", -1, ("a",)),
            ("many", 1, ["a"]), ("many", 1, ("a", "a")), ("many", ("a",), 1), ["many", 1, ("a",)],
            ("many", 1, ("a",), None),
            ("weights", 1, [("a", 1)]), ("weights", 1, (["a", 1],)), ("weights", True, (("a", 1),)),
            ("weights", 1, (("a", True),)), ("weights", 1189, (("a", 1),)), ("weights", 1, (("a", 100),)),
            ("weights", 1, (("a", 1), ("a", 1))), ("weights", 1, ()), ("weights", 1),
            ("grid", (("a",), ["b"])), ("grid", [("a",)]), ("grid", (("a", "b"), ("c",))), ("grid", ()),
            ("grid", ("a",)),
            ("grid", (("a",), ("a",))), ("grid",), ("grid", (("a",),), ()), ("wall", [("a",)]), ("wall", (["a"],)),
            ("wall", ()), ("wall", (("a",), ())), ("wall", "a"), ("wall", (("a",),), None),
            ("tree", "a"), ("tree", "a", None), ("tree", "a", []), ("tree", "a", [tree]), ("tree", "a", (tree,)),
            ("tree", "a", (["tree", "b", ()],)), ("tree", "a", (("many", 1, ("b",)),)), ("tree", "a", ("b",)),
            ("tree", 1, ()), ("tree", "tree", ()), ("tree", "a", (Tree("b"),)), ("tree", "a", {}), ("tree", "a", ""),
            ("tree", "a", tuple(("tree", name, ()) for name in "bcde")), ("tree", "e", (chain(list("abcd")).told(),)),
            ("put", "a", tree), ("put", "a", tree, tree, tree), ("put", "b", tree, tree), ("put", None, tree, tree),
            ("put", "a", list(tree), tree), ("put", "a", tree, list(tree)), ("put", "a", Tree("a"), Tree("b")),
            ("put", "a", puts_within(4).told(), tree), ("put", "a", tree, puts_within(4).told()),
            ("put", "a", tree, None),
            ("put", "a", ("many", 1, ("a", "b")), ("many", 1, ("c", "b"))), ("all", ("a",)), (None, 1, ("a",)),
            (["many"], 1, ("a",)), (("many",), 1, ("a",)), ({}, 1, ("a",)), ("many 1", 1, ("a",)), {"many": 1},
        ]
        for thing in wrong:
            was = copy.deepcopy(thing) if not isinstance(thing, dict) else thing
            self.refused_with(NoPlan, thing, plan_of, thing)
            if not any(isinstance(part, (Tree, tuple)) for part in thing):
                self.assertEqual(thing, was)

    def test_the_whole_thing_is_refused(self):
        inner = ("many", 5, ("b",))
        thing = ("put", "a", ("many", 1, ("a",)), inner)
        self.refused_with(NoPlan, thing, plan_of, thing)

    def test_things_twenty_deep(self):
        tree = ("tree", "a", ())
        put = ("many", 1, ("a",))
        wide = ()
        for turn in range(20):
            tree = ("tree", "a", (tree, tree, tree))
            put = ("put", "a", put, put)
            wide = (wide,) * 4100
        for thing in (tree, put, wide, ("tree", "a", wide), ("lots", wide, wide), ("grid", wide)):
            self.refused_with(NoPlan, thing, plan_of, thing)

    def test_one_thing_at_very_many_places(self):
        thing = ("tree", "a", ())
        for turn in range(3):
            thing = ("tree", "a", (thing,) * 4100)
            self.refused_with(NoPlan, thing, plan_of, thing)
            put = ("put", "a", thing, thing)
            self.refused_with(NoPlan, put, plan_of, put)

    def test_things_far_deeper(self):
        tree = ("tree", "a", ())
        one = other = ("many", 1, ("a",))
        for turn in range(3000):
            tree = ("tree", "a", (tree,))
            one = ("put", "a", one, ("many", 1, ("a",)))
            other = ("put", "a", ("many", 1, ("a",)), other)
        for thing in (tree, one, other):
            self.refused_with(NoPlan, thing, plan_of, thing)


class AlwaysMeeting(unittest.TestCase):
    def test_grids_walls_and_trees_meet(self):
        for plan in some_plans(300, 9, 0):
            if plan.word() in ("grid", "wall", "tree"):
                self.assertTrue(plan.system().meets(), plan.told())
        source = random.Random(2)
        for turn in range(40):
            self.assertTrue(random_tree(source, TWELVE, 4)[0].system().meets())

    def test_many_meet_just_where_they_are_more_than_half(self):
        for many in range(1, 9):
            for count in range(many + 1):
                self.assertIs(Many(count, TWELVE[:many]).system().meets(), 2 * count > many)

    def test_weights_meet_where_the_mark_is_more_than_half(self):
        source = random.Random(9)
        for turn in range(60):
            weights = [(name, source.randint(0, 9)) for name in TWELVE[:source.randint(1, 6)]]
            total = sum(weight for name, weight in weights)
            self.assertTrue(Weights(total // 2 + 1, weights).system().meets())
        self.assertTrue(Weights(1, [("a", 5), ("b", 0)]).system().meets())

    def test_puts_meet_where_both_do(self):
        seen = 0
        for plan in some_plans(200, 7, 3):
            if plan.word() == "put":
                tale = plan.told()
                if plan_of(tale[2]).system().meets() and plan_of(tale[3]).system().meets():
                    seen += 1
                    self.assertTrue(plan.system().meets(), tale)
        self.assertGreater(seen, 10)


if __name__ == "__main__":
    unittest.main()
