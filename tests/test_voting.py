"""Promises [6] to [9] and [90] to [94]: weights found, or sets that show that there are none."""

import copy
import itertools
import random
import unittest

from alwaysmeet.errors import TooMany
from alwaysmeet.otherside import other_side
from alwaysmeet.plans import Grid, Lots, Many, Tree, Wall, Weights
from alwaysmeet.systems import System, system_by
from alwaysmeet.voting import even_rows, shows_none, shows_weights, weights_of

from things import TWELVE, Refusals, all_sets, nearly, other_things, rows, some_systems, texts, whole_numbers

ABC = ["a", "b", "c"]
ABCD = ["a", "b", "c", "d"]
TWO_OF_THREE = Many(2, ABC).system()
# Two pairs decide, and two others with the same houses don't.
CROSSED = System(ABCD, [["a", "b"], ["c", "d"]])
LETTERS = list("abcdefghijkl")


def lettered(*lots):
    return System(LETTERS, [list(lot) for lot in lots])


# These have just so many greatest sets that don't decide.
SIXTY = lettered("aik", "bgj", "eil", "adek", "acegh", "acghl", "cdfgh")
SIXTY_ONE = lettered("jl", "ajk", "bcj", "deg", "dgij", "efhi", "bcekl")


def plain_greatest(system):
    """The greatest sets that don't decide, by going through all sets."""
    sets = [set(some) for some in all_sets(system.houses()) if not system.decides(some)]
    return [some for some in sets if not any(some < other for other in sets)]


def plain_weights(system, mark, told):
    """Whether a mark and rows show weights, looked at plainly."""
    if type(mark) is not int or mark < 0 or type(told) is not list or len(told) != len(system.houses()):
        return False
    for name, row in zip(system.houses(), told):
        if type(row) is not tuple or len(row) != 2 or row[0] != name or type(row[1]) is not int or row[1] < 0:
            return False
    weights = dict(told)
    return all(
        system.decides(some) is (sum(weights[name] for name in some) >= mark) for some in all_sets(system.houses())
    )


def are_plain_rows(system, told, decides):
    if type(told) is not list or not told:
        return False
    for row in told:
        if type(row) is not tuple or len(row) != 2 or type(row[0]) is not list or type(row[1]) is not int:
            return False
        if row[1] < 1 or row[0] not in all_sets(system.houses()) or system.decides(row[0]) is not decides:
            return False
    return True


def plain_none(system, some, others):
    """Whether sets with their times show that there are no weights, looked at plainly."""
    if not are_plain_rows(system, some, True) or not are_plain_rows(system, others, False):
        return False
    for part in system.houses() + ["each"]:
        left, right = [sum(times for one, times in told if part in one + ["each"]) for told in (some, others)]
        if left != right:
            return False
    return True


class WeightsOf(Refusals):
    def right(self, system):
        """The word of what is told of a system, which has to be right."""
        told = weights_of(system)
        self.assertEqual((type(told), len(told)), (tuple, 3))
        if told[0] == "weights":
            self.assertTrue(plain_weights(system, told[1], told[2]), (system.told(), told))
            self.assertIs(shows_weights(system, told[1], copy.deepcopy(told[2])), True)
        else:
            self.assertEqual(told[0], "none")
            self.assertTrue(plain_none(system, told[1], told[2]), (system.told(), told))
            self.assertIs(shows_none(system, told[1], copy.deepcopy(told[2])), True)
            for part in told[1:]:
                sets = [one for one, times in part]
                self.assertEqual(sets, [one for one in all_sets(system.houses()) if one in sets])
        return told[0]

    def test_against_the_paper(self):
        seen = {"weights": 0, "none": 0}
        for system in some_systems(250):
            word = self.right(system)
            seen[word] += 1
            # What has weights, its other side has, too.
            self.assertEqual(self.right(other_side(system)), word)
        self.assertGreater(min(seen.values()), 20)

    def test_all_systems_of_three_houses_have_weights(self):
        told = set(system_by(ABC, masks).told() for many in range(4)
                   for masks in itertools.combinations(range(8), many))
        self.assertEqual(len(told), 20)
        for names, lots in told:
            self.assertEqual(self.right(System(names, lots)), "weights")

    def test_all_systems_of_four_houses(self):
        told = set(system_by(ABCD, masks).told() for many in range(5)
                   for masks in itertools.combinations(range(16), many))
        words = [self.right(System(names, lots)) for names, lots in sorted(told)]
        # By weights of up to three and all marks, which is enough for four houses, these are found plainly.
        by_weights = set()
        for weights in itertools.product(range(4), repeat=4):
            for mark in range(sum(weights) + 2):
                by_weights.add(Weights(mark, list(zip(ABCD, weights))).system().told())
        self.assertEqual(words, ["weights" if one in by_weights else "none" for one in sorted(told)])
        self.assertEqual(set(words), {"weights", "none"})

    def test_weights_of_plans(self):
        source = random.Random(53)
        for turn in range(60):
            names = TWELVE[:source.randint(1, 6)]
            votes = [(name, source.choice([0, 1, 1, 2, 3, 5, 50, 98, 99])) for name in names]
            mark = source.randint(0, sum(weight for name, weight in votes) + 1)
            system = Weights(mark, votes).system()
            self.assertEqual(self.right(system), "weights")
            self.assertEqual(self.right(other_side(system)), "weights")
        for many in range(7):
            self.assertEqual(self.right(Many(many, TWELVE[:6]).system()), "weights")

    def test_told_cases(self):
        for word, system in (
            ("none", CROSSED), ("none", other_side(CROSSED)), ("none", Grid([TWELVE[:3], TWELVE[3:6]]).system()),
            ("none", Grid([["a", "b"], ["c", "d"], ["e", "f"]]).system()),
            ("weights", Wall([["a"], ["b", "c"]]).system()), ("weights", Tree("a", [Tree("b"), Tree("c")]).system()),
            ("weights", System(ABC, [["a"], ["a", "b"], ["b", "c"]])),
            ("weights", Grid([["a", "b"], ["c", "d"]]).system()),
        ):
            self.assertEqual(self.right(system), word)
        self.assertEqual(weights_of(system=CROSSED)[0], "none")
        # Seven lots of three of seven houses, any two of which share just one.
        plane = System(list("abcdefg"), [list(lot) for lot in ("abc", "ade", "afg", "bdf", "beg", "cdg", "cef")])
        self.assertEqual(self.right(plane), "none")

    def test_edges(self):
        for system in (
            System(["a"], []), System(["a"], [[]]), System(["a"], [["a"]]), System(TWELVE, []), System(TWELVE, [[]]),
            System(ABC, [[], ["a"]]), System(TWELVE, [TWELVE]), System(TWELVE, [[name] for name in TWELVE]),
            System(TWELVE, [["mill"], ["mill", "inn"]]),
        ):
            self.assertEqual(self.right(system), "weights")
            self.assertEqual(self.right(other_side(system)), "weights")

    def test_twelve_houses(self):
        source = random.Random(59)
        seen = {"weights": 0, "none": 0}
        for turn in range(12):
            lots = source.sample(all_sets(TWELVE)[1:80], source.randint(1, 6))
            system = System(TWELVE, lots)
            if len(plain_greatest(system)) <= 60:
                seen[self.right(system)] += 1
        votes = list(zip(TWELVE, [40, 21, 9, 9, 5, 3, 2, 1, 1, 0, 0, 0]))
        self.assertEqual(self.right(Weights(66, votes).system()), "weights")
        self.assertGreater(seen["none"], 3)

    def test_too_many_lots(self):
        sixes = [list(some) for some in itertools.combinations(TWELVE, 6)]
        for found, system in (
            (66, Many(2, TWELVE).system()), (924, Many(6, TWELVE).system()), (61, System(TWELVE, sixes[:61])),
            (61, System(TWELVE, sixes[:61] + [TWELVE])), (66, Many(10, TWELVE).system()),
            # Both are too many: the lots are told.
            (220, Many(9, TWELVE).system()),
        ):
            refusal = self.refused(TooMany, weights_of, system)
            self.assertEqual((type(refusal.found), refusal.found), (int, found))

    def test_too_many_greatest_sets_that_do_not_decide(self):
        self.assertEqual(len(plain_greatest(SIXTY)), 60)
        self.right(SIXTY)
        self.assertEqual(len(plain_greatest(SIXTY_ONE)), 61)
        self.assertEqual(self.refused(TooMany, weights_of, SIXTY_ONE).found, 61)
        self.assertEqual(self.refused(TooMany, weights_of, lettered("ab", "cd", "ef", "gh", "ij", "kl")).found, 64)
        self.right(lettered("abc", "defg", "hijkl"))

    def test_sixty_least_lots(self):
        other = other_side(SIXTY)
        self.assertEqual(len(other.lots()), 60)
        self.right(other)
        self.assertEqual(self.refused(TooMany, weights_of, other_side(SIXTY_ONE)).found, 61)
        # Lots that are not least don't count.
        more = [some for some in all_sets(LETTERS) if other.decides(some)][:900]
        self.right(System(LETTERS, [lot for lot in other.lots() if lot not in more] + more))

    def test_many_lots_of_which_few_are_least(self):
        more = [some for some in all_sets(TWELVE) if "mill" in some and "inn" in some][:1000]
        self.assertEqual(self.right(System(TWELVE, more)), "weights")

    def test_the_same_answer_each_time_and_new_lists(self):
        for system in (CROSSED, TWO_OF_THREE):
            right = copy.deepcopy(weights_of(system))
            told = weights_of(System(system.houses(), system.lots()[::-1]))
            self.assertEqual(told, right)
            told[2].clear()
            if told[0] == "none":
                told[1][0][0].clear()
                told[1].clear()
            self.assertEqual(weights_of(system), right)
        self.assertEqual(CROSSED.lots(), [["a", "b"], ["c", "d"]])


class Even(unittest.TestCase):
    def test_sets_are_filled_up_and_houses_taken_out(self):
        # Three lots of three houses, twice each, against sets that lack one house of each, three times.
        some = [(0b111, 2), (0b111000, 2), (0b111000000, 2)]
        others = [(0b011011011, 1), (0b101101101, 1), (0b110110110, 1)]
        for left, right in ((some, others), (some[:2], others), (some[1:], others[::-1])):
            even = even_rows(left, right, 9)
            self.assertEqual(*[sum(times for mask, times in told) for told in (left, even)])
            for number in range(9):
                self.assertEqual(*[sum(times for mask, times in told if mask >> number & 1) for told in (left, even)])
            # Each set is one of the others with houses taken out.
            self.assertTrue(all(any(mask & one == mask for one, times in right) for mask, times in even))


class ShowsWeights(unittest.TestCase):
    def test_all_small_weights(self):
        for system in (TWO_OF_THREE, System(ABC, [["a"], ["b", "c"]]), System(ABC, []), System(ABC, [[]])):
            for weights in itertools.product(range(4), repeat=3):
                told = list(zip(ABC, weights))
                for mark in range(8):
                    right = system.told() == Weights(mark, told).system().told()
                    self.assertIs(shows_weights(system, mark, told), right)

    def test_things_that_are_nearly_right(self):
        seen = {True: 0, False: 0}
        for system in [TWO_OF_THREE, System(["a"], [["a"]]), System(["b", "a"], [["a", "b"]]), System(ABC, [[]])]:
            word, mark, told = weights_of(system)
            for thing in nearly(told):
                right = plain_weights(system, mark, thing)
                seen[right] += 1
                self.assertIs(shows_weights(system, mark, thing), right, thing)
            for thing in nearly(mark):
                self.assertIs(shows_weights(system, thing, told), plain_weights(system, thing, told))
        self.assertGreater(seen[False], 200)

    def test_truths_and_other_kinds(self):
        system = System(["a"], [["a"]])
        self.assertIs(shows_weights(system, 1, [("a", 1)]), True)
        for mark, told in (
            (True, [("a", 1)]), (1, [("a", True)]), (1, (("a", 1),)), (1, [["a", 1]]), (1, [("a", 1, 1)]),
            (1, [("b", 1)]), (1, []), (1, [("a", 1), ("a", 1)]), (1, [("a", "1")]), ("1", [("a", 1)]), (1, {"a": 1}),
            (0, [("a", 1)]), (2, [("a", 1)]), (-1, [("a", 1)]), (1, [("a", -1)]), ((1, 1), [("a", 1)]), (None, None),
        ):
            self.assertIs(shows_weights(system, mark, told), False)
        self.assertIs(shows_weights(System(["a"], []), 1, [("a", -1)]), False)
        self.assertIs(shows_weights(System(["a"], [[]]), -1, [("a", 0)]), False)
        self.assertIs(shows_weights(system=system, rows=[("a", 7)], mark=3), True)

    def test_houses_in_another_order(self):
        system = System(["b", "a"], [["a", "b"]])
        self.assertIs(shows_weights(system, 2, [("b", 1), ("a", 1)]), True)
        self.assertIs(shows_weights(system, 2, [("a", 1), ("b", 1)]), False)

    def test_great_numbers(self):
        great = 10**30 - 1
        self.assertIs(shows_weights(TWO_OF_THREE, great + 1, [("a", great), ("b", great), ("c", great)]), True)
        self.assertIs(shows_weights(TWO_OF_THREE, great, [("a", great), ("b", great), ("c", great)]), False)
        self.assertIs(shows_weights(Many(12, TWELVE).system(), 12, [(name, 1) for name in TWELVE]), True)
        self.assertIs(shows_weights(Many(6, TWELVE).system(), 6, [(name, 1) for name in TWELVE]), True)
        self.assertIs(shows_weights(Many(6, TWELVE).system(), 7, [(name, 1) for name in TWELVE]), False)

    def test_any_things(self):
        for system in (TWO_OF_THREE, System(["a"], []), System(["a"], [[]])):
            mark, told = weights_of(system)[1:]
            for thing in other_things() + rows() + texts() + whole_numbers():
                self.assertIs(shows_weights(system, thing, told), plain_weights(system, thing, told))
                self.assertIs(shows_weights(system, mark, thing), False)
                self.assertIs(shows_weights(system, thing, thing), False)
                self.assertIs(shows_weights(system, mark, [thing]), False)
                self.assertIs(shows_weights(system, mark, [(thing, 1)] + told[1:]),
                              plain_weights(system, mark, [(thing, 1)] + told[1:]))


class ShowsNone(unittest.TestCase):
    def test_sets_in_any_order_and_more_than_once(self):
        ab, cd, ac, bd = ["a", "b"], ["c", "d"], ["a", "c"], ["b", "d"]
        great = 10**30 - 1
        for some, others in (
            ([(ab, 1), (cd, 1)], [(ac, 1), (bd, 1)]), ([(cd, 1), (ab, 1)], [(bd, 1), (ac, 1)]),
            ([(ab, 2), (cd, 2)], [(ac, 1), (bd, 2), (ac, 1)]),
            ([(ab, great), (cd, great)], [(ac, great), (bd, great)]),
            ([(ab, 1), (cd, 1)], [(["b", "c"], 1), (["a", "d"], 1)]),
        ):
            self.assertIs(shows_none(CROSSED, some, others), True)
            self.assertIs(shows_none(system=CROSSED, others=others, some=some), True)
            self.assertIs(shows_none(CROSSED, others, some), False)
            self.assertIs(shows_none(CROSSED, some + [(ab, 1)], others), False)
            self.assertIs(shows_none(CROSSED, some, others + [([], 1)]), False)
            self.assertIs(shows_none(CROSSED, some, others[1:]), False)
        # Each house stands as often, but one list has more sets.
        self.assertIs(shows_none(CROSSED, [(ABCD, 1)], [(ac, 1), (bd, 1)]), False)
        self.assertIs(shows_none(CROSSED, [(ABCD, 1), (ab, 1)], [(ac, 1), (bd, 1), (["a"], 1), (["b"], 1)]), False)
        # As many sets, but a house stands more often.
        self.assertIs(shows_none(CROSSED, [(ab, 1), (cd, 1)], [(ac, 1), (["b", "c"], 1)]), False)

    def test_each_set_has_to_be_on_its_side(self):
        ab, cd, ac, bd = ["a", "b"], ["c", "d"], ["a", "c"], ["b", "d"]
        some, others = [(ab, 1), (cd, 1)], [(ac, 1), (bd, 1)]
        self.assertIs(shows_none(CROSSED, some + [(ab, 1)], others + [(ab, 1)]), False)
        self.assertIs(shows_none(CROSSED, [(ac, 1)] + some, [(ac, 1)] + others), False)

    def test_nothing_shows_it_without_sets(self):
        for system in (CROSSED, TWO_OF_THREE, System(ABC, []), System(ABC, [[]])):
            self.assertIs(shows_none(system, [], []), False)

    def test_nothing_shows_it_where_there_are_weights(self):
        source = random.Random(61)
        sets = all_sets(ABC)
        for system in (TWO_OF_THREE, System(ABC, [["a"], ["b", "c"]])):
            for turn in range(300):
                some = [(one, source.randint(1, 2)) for one in source.choices(sets, k=2)]
                others = [(one, source.randint(1, 2)) for one in source.choices(sets, k=2)]
                self.assertIs(shows_none(system, some, others), False)

    def test_all_pairs_of_two_sets(self):
        sets = all_sets(ABCD)
        seen = 0
        for one, other in itertools.combinations_with_replacement([some for some in sets if CROSSED.decides(some)], 2):
            for left, right in itertools.combinations_with_replacement(
                [some for some in sets if not CROSSED.decides(some)], 2
            ):
                some, others = [(one, 1), (other, 1)], [(left, 1), (right, 1)]
                good = plain_none(CROSSED, some, others)
                seen += good
                self.assertIs(shows_none(CROSSED, some, others), good)
        self.assertEqual(seen, 2)

    def test_things_that_are_nearly_right(self):
        seen = {True: 0, False: 0}
        for system in (CROSSED, Grid([["a", "b"], ["c", "d"], ["e", "f"]]).system()):
            word, some, others = weights_of(system)
            self.assertEqual(word, "none")
            for thing in nearly(some):
                right = plain_none(system, thing, others)
                seen[right] += 1
                self.assertIs(shows_none(system, thing, others), right, thing)
            for thing in nearly(others):
                self.assertIs(shows_none(system, some, thing), plain_none(system, some, thing), thing)
            self.assertIs(shows_none(system, [(one, times * 10**29) for one, times in some],
                                     [(one, times * 10**29) for one, times in others]), True)
            self.assertIs(shows_none(system, [(one, times * 10**29) for one, times in some], others), False)
        # Two sets that change places still show it.
        self.assertGreater(seen[True], 0)
        self.assertGreater(seen[False], 100)

    def test_truths_and_other_kinds(self):
        ab, cd, ac, bd = ["a", "b"], ["c", "d"], ["a", "c"], ["b", "d"]
        some, others = [(ab, 1), (cd, 1)], [(ac, 1), (bd, 1)]
        for thing in (
            [(ab, True), (cd, 1)], [(ab, 0), (ab, 1), (cd, 1)], [(ab, -1), (ab, 2), (cd, 1)], tuple(some),
            [[ab, 1], (cd, 1)], [(tuple(ab), 1), (cd, 1)], [(["b", "a"], 1), (cd, 1)], [(ab, 1, 1), (cd, 1)],
            [(ab, "1"), (cd, 1)], [("ab", 1), (cd, 1)], [(["a", "a", "b"], 1), (cd, 1)], {"a": 1}, None,
            [(ab, (1, 1)), (cd, (1, 1))], [(ab, 1)], [(ab, 1), (ab, 1)], [(["a", "x"], 1), (cd, 1)],
        ):
            self.assertIs(shows_none(CROSSED, thing, others), False)
        self.assertIs(shows_none(CROSSED, some, others), True)
        self.assertIs(shows_none(CROSSED, some, [(ac, True), (bd, True)]), False)

    def test_any_things(self):
        some, others = weights_of(CROSSED)[1:]
        for thing in other_things() + rows() + texts() + whole_numbers():
            self.assertIs(shows_none(CROSSED, thing, others), False)
            self.assertIs(shows_none(CROSSED, some, thing), False)
            self.assertIs(shows_none(CROSSED, thing, thing), False)
            self.assertIs(shows_none(CROSSED, [thing], others), False)
            self.assertIs(shows_none(CROSSED, some, [(thing, 1)]), False)
            self.assertIs(shows_none(CROSSED, [(["a", "b"], thing)] + some, others), False)

    def test_nothing_is_changed(self):
        some, others = weights_of(CROSSED)[1:]
        before = copy.deepcopy((some, others))
        shows_none(CROSSED, some, others)
        self.assertEqual((some, others), before)


class OfPlans(unittest.TestCase):
    def test_lots_as_plans(self):
        self.assertEqual(weights_of(Lots(ABCD, CROSSED.lots()).system()), weights_of(CROSSED))


if __name__ == "__main__":
    unittest.main()
