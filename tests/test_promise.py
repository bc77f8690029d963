"""Promises [1] to [9] over the whole program: kinds, order, bounds, what stays, and each row of the promise."""

import copy
import itertools
import random
import unittest
from fractions import Fraction

from alwaysmeet.chances import chance, chance_rows, chances_by, counts, decides_of, matters, turns
from alwaysmeet.desk import Desk
from alwaysmeet.errors import Apart, MeetError, TooMany
from alwaysmeet.falls import (
    fall_counts, fall_paper, falling, last_hopes, least_falls, may_fall, more_may_fall, shows_fall,
)
from alwaysmeet.fractions import is_share, share_in, share_text
from alwaysmeet.keeping import Kept
from alwaysmeet.loads import least_load, load_of, shows_load
from alwaysmeet.otherside import is_own_side, other_side, settled, shows_settled
from alwaysmeet.plans import Grid, Many, Put, Tree, Wall, Weights, plan_of
from alwaysmeet.plantext import plan_text, read_plan, system_text
from alwaysmeet.systems import System
from alwaysmeet.twokinds import Two, rows_of, shows_two, two_of
from alwaysmeet.voting import shows_none, shows_weights, weights_of
from alwaysmeet.widening import shows_widened, spare_set, widened

from planmodel import decides_by, some_plans
from things import TWELVE, Refusals, all_sets, least_sets, some_systems

# The answers that hang on a system alone, or on it, a set of it, and falls of it.
BY_SYSTEM = [
    lambda system: system.houses(), lambda system: system.lots(), lambda system: system.told(),
    lambda system: system.apart(), lambda system: system.meets(), lambda system: system.is_least(),
    lambda system: system.least(), lambda system: system.table(), other_side, is_own_side, spare_set, widened, may_fall,
    fall_paper, least_falls, fall_counts, least_load, weights_of, counts, decides_of, turns, two_of, system_text,
    lambda system: rows_of(two_of(system)), lambda system: two_of(system).filled(),
    lambda system: Kept(two_of(system)).missed(), lambda system: Kept(two_of(system)).write(7),
]
BY_SET = [
    lambda system, some: system.decides(some), lambda system, some: system.within(some),
    lambda system, some: system.standing(some), settled, falling, last_hopes, more_may_fall,
    lambda system, some: Kept(two_of(system)).read(some),
]
BY_FALLS = [
    chance, chance_rows, matters, lambda system, falls: chances_by(system, falls, system.houses()[-1]),
]


def plainly(thing):
    """A copy of what is told, systems and two kinds as they tell themselves."""
    if isinstance(thing, (System, Two)):
        return thing.told()
    if isinstance(thing, (list, tuple)):
        return type(thing)([plainly(part) for part in thing])
    if isinstance(thing, dict):
        return [(name, plainly(part)) for name, part in thing.items()]
    return thing


def spoil(thing):
    """Changes whatever can be changed in what was told."""
    if isinstance(thing, (list, tuple)):
        for part in thing:
            spoil(part)
    if isinstance(thing, list):
        thing.append("spoiled")
    if isinstance(thing, dict):
        for part in thing.values():
            spoil(part)
        thing["spoiled"] = True


def asked(ask, *things):
    """What is told, or by which class with which fields it is refused; and the told thing itself."""
    try:
        told = ask(*things)
    except MeetError as refusal:
        # The fields may be the very things that were handed in, so they are not to be spoiled.
        return (type(refusal).__name__, plainly(vars(refusal))), None
    return plainly(told), told


def all_asks(system):
    """All questions of a system: each a function and what is handed in behind the system."""
    names = system.houses()
    some = names[::-2]
    falls = {name: (1, at + 2) for at, name in enumerate(names)}
    yield from ((ask, ()) for ask in BY_SYSTEM)
    yield from ((ask, (list(part),)) for ask in BY_SET for part in ([], some, names))
    yield from ((ask, (dict(falls),)) for ask in BY_FALLS)


def kinds_are_right(thing):
    """Whether all is made of texts, whole numbers, truths, None, lists, tuples and dicts."""
    if type(thing) in (list, tuple):
        return all(kinds_are_right(part) for part in thing)
    return thing is None or type(thing) in (str, int, bool)


class Answers(unittest.TestCase):
    def test_kinds(self):
        for system in some_systems(30, 4):
            for ask, things in all_asks(system):
                self.assertTrue(kinds_are_right(asked(ask, system, *things)[0]))

    def test_what_is_told_may_be_changed(self):
        for system in some_systems(30, 4):
            twin = System(system.houses(), system.lots())
            before = system.told()
            for ask, things in all_asks(system):
                handed = copy.deepcopy(things)
                first, thing = asked(ask, system, *things)
                spoil(thing)
                self.assertEqual(things, handed)
                self.assertEqual(asked(ask, system, *things)[0], first)
                self.assertEqual(asked(ask, twin, *handed)[0], first)
            self.assertEqual(system.told(), before)

    def test_nothing_hangs_on_what_was_asked_before(self):
        source = random.Random(103)
        systems = some_systems(12, 4)
        right = {}
        for at, system in enumerate(systems):
            for number, (ask, things) in enumerate(all_asks(System(system.houses(), system.lots()))):
                right[at, number] = asked(ask, System(system.houses(), system.lots()), *things)[0]
        order = list(right) * 2
        source.shuffle(order)
        for at, number in order:
            ask, things = list(all_asks(systems[at]))[number]
            self.assertEqual(asked(ask, systems[at], *things)[0], right[at, number])

    def test_what_was_handed_in_may_be_changed(self):
        names, lots = ["a", "b", "c"], [["a", "b"], ["b", "c"]]
        grid, votes, ways = [["a", "b"], ["c", "d"]], [("a", 1), ("b", 2)], [Tree("b"), Tree("c")]
        made = [System(names, lots), Grid(grid), Wall(grid), Weights(2, votes), Tree("a", ways), Many(2, names)]
        told = [one.told() for one in made]
        lots[0].clear()
        for thing in (names, lots, grid[0], grid, votes, ways):
            thing.clear()
        self.assertEqual([one.told() for one in made], told)

    def test_sets_are_told_in_order(self):
        for system in some_systems(40, 5):
            names = system.houses()
            sets = all_sets(names)
            for told in (
                system.lots(), system.least().lots(), other_side(system).lots(), least_falls(system),
                [some for some, lot in fall_paper(system)[1]],
            ):
                self.assertEqual(told, [some for some in sets if some in told])
            for told in (decides_of(system), turns(system)):
                self.assertEqual(list(told), names)

    def test_shares_are_in_lowest_terms(self):
        for system in some_systems(30, 5):
            falls = {name: (2, 7) for name in system.houses()}
            shares = [chance(system, falls)] + [share for many, share in chance_rows(system, falls)]
            shares += list(turns(system).values()) + list(matters(system, falls).values())
            if system.lots():
                load, dealing, parts = least_load(system)
                shares += [load] + [share for lot, share in dealing] + list(parts.values())
                shares += list(load_of(system, dealing)[0].values())
            for share in shares:
                self.assertTrue(is_share(share))
                self.assertEqual(share_in(share_text(share)), share)


class Bounds(Refusals):
    def test_a_thousand_lots_of_twelve_houses(self):
        lots = [some for some in all_sets(TWELVE) if len(some) >= 7][:1000]
        system = System(TWELVE, lots)
        falls = {name: (1, 989 + at) for at, name in enumerate(TWELVE)}
        self.assertTrue(system.meets())
        self.assertEqual(len(two_of(system).told()[0][1]), 1000)
        for ask in (other_side, widened, fall_paper, fall_counts, counts, decides_of, turns, system_text):
            ask(system)
        for ask in (chance, matters, chance_rows):
            ask(system, falls)
        self.assertEqual(self.refused(TooMany, weights_of, system).found, 792)
        self.assertEqual(self.refused(TooMany, least_load, system).found, 792)
        plan = read_plan(system_text(system))
        self.assertEqual(plan.system().told(), system.least().told())
        self.assertEqual(plan_of(plan.told()).told(), plan.told())

    def test_what_is_told_may_be_handed_in(self):
        for system in some_systems(40, 5):
            self.assertEqual(System(*system.told()).told(), system.told())
            for lot in system.lots():
                self.assertTrue(system.decides(lot))
            told = weights_of(system)
            if told[0] == "weights" and max([told[1]] + [weight for name, weight in told[2]]) < 100:
                self.assertEqual(Weights(told[1], told[2]).system().told(), system.least().told())


class Promise(Refusals):
    """Each row of [9], by plans of all kinds."""

    def test_any_two_lots_share_a_house_or_the_first_two_are_told(self):
        for plan in some_plans(120, 6):
            lots = plan.system().lots()
            pairs = [(one, other) for at, one in enumerate(lots) for other in lots[at:] if not set(one) & set(other)]
            self.assertEqual(plan.system().apart(), pairs[0] if pairs else None)
            if plan.word() in ("grid", "wall", "tree"):
                self.assertEqual(pairs, [])
            if plan.word() == "many" and 2 * plan.told()[1] > len(plan.houses()):
                self.assertEqual(pairs, [])
            if plan.word() == "weights" and 2 * plan.told()[1] > sum(weight for name, weight in plan.told()[2]):
                self.assertEqual(pairs, [])
        meeting = [plan for plan in some_plans(40, 4, 0) if plan.system().meets()]
        for outer, inner in itertools.product(meeting[:12], meeting[-12:]):
            name = outer.houses()[-1]
            inner = plan_of(renamed(inner.told()))
            self.assertTrue(Put(name, outer, inner).system().meets())

    def test_made_least_just_the_same_sets_decide(self):
        for plan in some_plans(80, 5):
            system, names = plan.system(), plan.houses()
            least = system.least()
            self.assertEqual(least.lots(), least_sets(names, lambda some: decides_by(plan.told(), some)))
            self.assertTrue(least.is_least())
            for some in all_sets(names):
                right = decides_by(plan.told(), some)
                self.assertEqual([plan.decides(some), system.decides(some), least.decides(some)], [right] * 3)

    def test_either_a_lot_stands_or_the_other_side_has_fallen(self):
        for plan in some_plans(60, 5):
            system = plan.system()
            other = other_side(system)
            self.assertEqual(other_side(other).told(), system.least().told())
            for fallen in all_sets(plan.houses()):
                self.assertNotEqual(system.standing(fallen) is not None, other.decides(fallen))
                word, found = told = settled(system, fallen)
                self.assertEqual(found, system.standing(fallen) if word == "stands" else other.within(fallen))
                self.assertIs(shows_settled(system, fallen, told), True)

    def test_what_meets_can_be_widened(self):
        for plan in some_plans(80, 5):
            system = plan.system()
            if system.meets():
                wide, sets = widened(system)
                self.assertTrue(wide.meets() and is_own_side(wide))
                self.assertTrue(all(wide.decides(lot) for lot in system.lots()))
                self.assertIs(shows_widened(system, sets), True)
            else:
                self.refused(Apart, widened, system)

    def test_how_many_may_fall(self):
        for plan in some_plans(60, 5):
            system, names = plan.system(), plan.houses()
            number, told, fallen = paper = fall_paper(system)
            self.assertIs(shows_fall(system, paper), True)
            self.assertEqual([some for some, lot in told], [some for some in all_sets(names) if len(some) == number])
            self.assertTrue(all(lot in system.lots() and not set(lot) & set(some) for some, lot in told))
            if fallen is None:
                self.assertEqual(number, len(names))
            else:
                self.assertEqual(len(fallen), number + 1)
                self.assertTrue(all(set(lot) & set(fallen) for lot in system.lots()))

    def test_two_kinds_meet(self):
        for plan in some_plans(60, 5):
            reads = plan.system()
            two = Two(reads, other_side(reads))
            self.assertTrue(all(house in read and house in write for read, write, house in rows_of(two)))
            self.assertIs(shows_two(two.reads(), two.writes(), rows_of(two)), True)
            self.assertTrue(two.is_full())

    def test_the_least_load(self):
        for plan in some_plans(80, 6):
            system = plan.system()
            if system.lots():
                load, dealing, shares = told = least_load(system)
                self.assertIs(shows_load(system, told), True)
                self.assertEqual(load_of(system, dealing)[1], load)
                least = min(sum(Fraction(*shares[name]) for name in lot) for lot in system.lots())
                self.assertEqual(least, Fraction(*load))

    def test_weights_or_none(self):
        seen = {"weights": 0, "none": 0}
        plans = some_plans(100, 6)
        for system in [plan.system() for plan in plans] + some_systems(100):
            word, one, other = weights_of(system)
            seen[word] += 1
            self.assertIs(shows_weights(system, one, other), word == "weights")
            self.assertIs(shows_none(system, one, other), word == "none")
        for plan in plans:
            if plan.word() in ("many", "weights"):
                self.assertEqual(weights_of(plan.system())[0], "weights")
        self.assertGreater(min(seen.values()), 8)

    def test_the_chance_is_the_sum_of_all_falls_that_leave_a_lot(self):
        source = random.Random(107)
        for plan in some_plans(40, 5):
            names, system = plan.houses(), plan.system()
            falls = {name: source.choice([(0, 1), (1, 1), (1, 2), (2, 5), (1, 1000)]) for name in names}
            total = Fraction(0)
            for fallen in all_sets(names):
                if system.standing(fallen) is not None:
                    part = Fraction(1)
                    for name in names:
                        part *= Fraction(*falls[name]) if name in fallen else 1 - Fraction(*falls[name])
                    total += part
            self.assertEqual(chance(system, falls), (total.numerator, total.denominator))

    def test_each_read_tells_what_was_written_last(self):
        source = random.Random(109)
        for plan in some_plans(60, 5):
            kept = Kept(Two(plan.system(), other_side(plan.system())))
            last = None
            for turn in range(40):
                name = source.choice(plan.houses())
                if name in kept.fallen():
                    kept.come(name)
                elif source.random() < 0.6:
                    kept.fall(name)
                try:
                    if turn % 2:
                        kept.write(turn)
                        last = turn
                    elif last is not None:
                        value, stamp, house = kept.read()
                        self.assertEqual((value, kept.stamp_at(house)), (last, (stamp, last)))
                        wrote = [deed for deed in kept.history() if deed[0] == "write"][-1]
                        self.assertIn(house, wrote[4])
                except MeetError as refusal:
                    self.assertIn(refusal.kind, ("reads", "writes"))

    def test_texts_of_plans(self):
        for plan in some_plans(100, 8, 3):
            again = read_plan(plan_text(plan))
            self.assertEqual((again.told(), plan_text(again)), (plan.told(), plan_text(plan)))
            self.assertEqual(plan_of(plan.told()).told(), plan.told())
            self.assertEqual(read_plan(system_text(plan.system())).system().told(), plan.system().told())
            desk = Desk()
            desk.say(f"plan a {plan_text(plan)}")
            self.assertEqual(desk.say("text a"), plan_text(plan))


def renamed(tale):
    """What a plan tells, with other names for all its houses."""
    if isinstance(tale, tuple):
        return tuple(renamed(part) if at > 0 or not is_word(part) else part for at, part in enumerate(tale))
    return f"n{tale[:5]}" if isinstance(tale, str) else tale


def is_word(part):
    return part in ("lots", "many", "weights", "grid", "wall", "tree", "put")


if __name__ == "__main__":
    unittest.main()
