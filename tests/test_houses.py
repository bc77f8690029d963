"""Promises [2], [3], [6], [7], [11], [12] and [13]: houses, sets, masks and their order."""

import copy
import itertools
import unittest

from alwaysmeet.errors import NoHouse, NoHouses, NoNumber, NoSet, Twice
from alwaysmeet.houses import Houses, count_of, in_order, key_of, same_houses
from alwaysmeet.words import own_words

from things import TWELVE, Refusals, other_things, rows, texts, whole_numbers


def masks_by_order(many):
    """All masks of so many houses as [3] orders their sets, found by going through the sets."""
    told = []
    for count in range(many + 1):
        for numbers in itertools.combinations(range(many), count):
            told.append(sum(2**number for number in numbers))
    return told


class Making(Refusals):
    def test_one_to_twelve_names(self):
        for many in range(1, 13):
            for kind in (list, tuple):
                houses = Houses(kind(TWELVE[:many]))
                self.assertEqual(houses.names(), TWELVE[:many])
                self.assertEqual(houses.size(), many)
                self.assertEqual([houses.number(name) for name in TWELVE[:many]], list(range(many)))

    def test_the_order_is_the_told_one(self):
        houses = Houses(["inn", "barn", "abbey"])
        self.assertEqual(houses.names(), ["inn", "barn", "abbey"])
        self.assertEqual(houses.number("abbey"), 2)

    def test_kinds_of_what_is_told(self):
        houses = Houses(("inn", "barn"))
        self.assertIs(type(houses.names()), list)
        self.assertIs(type(houses.size()), int)
        self.assertIs(type(houses.number("inn")), int)

    def test_none_and_thirteen(self):
        for found in ([], (), TWELVE + ["more"], tuple(TWELVE + ["more"]), ["a"] * 4100):
            self.refused_with(NoHouses, found, Houses, found)

    def test_two_alike(self):
        for found in (["a", "a"], ("a", "b", "a"), TWELVE[:11] + [TWELVE[0]], ["b", "a", "a"]):
            self.refused_with(NoHouses, found, Houses, found)

    def test_a_thing_that_is_no_name(self):
        wrong = ["", "abcdefg", "Mill", "mi1l", "mi-ll", "mi ll", "mill\n", "\n"] + own_words()
        for thing in wrong + other_things() + rows() + whole_numbers():
            for found in ([thing], ("a", thing), [thing, "a"], ["a", thing, "a"], [thing, thing]):
                self.refused_with(NoHouses, found, Houses, found)

    def test_what_is_no_list_and_no_tuple(self):
        for found in other_things() + texts() + whole_numbers():
            self.refused_with(NoHouses, found, Houses, found)

    def test_by_name(self):
        self.assertEqual(Houses(names=["a", "b"]).number(name="b"), 1)
        self.refused_with(NoHouses, None, Houses, names=None)


class Keeping(unittest.TestCase):
    def test_what_is_handed_in_is_kept_as_a_copy(self):
        names = ["a", "b"]
        houses = Houses(names)
        names[0] = "c"
        names.append("d")
        self.assertEqual(houses.names(), ["a", "b"])
        self.assertEqual(houses.size(), 2)
        self.assertEqual(houses.number("a"), 0)

    def test_what_is_handed_in_is_not_changed(self):
        names, some, masks = ["b", "a", "c"], ["c", "b"], [7, 0, 4, 4]
        houses = Houses(names)
        houses.mask(some)
        in_order(masks)
        self.assertEqual((names, some, masks), (["b", "a", "c"], ["c", "b"], [7, 0, 4, 4]))

    def test_lists_are_new_ones_each_time(self):
        houses = Houses(["a", "b"])
        houses.names().append("c")
        houses.set_of(3).clear()
        self.assertEqual(houses.names(), ["a", "b"])
        self.assertEqual(houses.set_of(3), ["a", "b"])
        self.assertEqual(houses.size(), 2)

    def test_what_is_refused_changes_nothing(self):
        houses = Houses(["a", "b"])
        for ask, thing in ((houses.number, "c"), (houses.mask, ["a", "a"]), (houses.set_of, 4)):
            was = copy.deepcopy(thing)
            self.assertRaises(ValueError, ask, thing)
            self.assertEqual(thing, was)
        self.assertEqual(houses.names(), ["a", "b"])
        self.assertEqual(houses.mask(["a"]), 1)


class Number(Refusals):
    def test_what_is_no_house(self):
        houses = Houses(TWELVE)
        wrong = ["b", "Mill", "mil", "mills", "lots", "", "mill\n", " mill", 0, 1, ["mill"], ("mill",), {"mill": 0}]
        for found in wrong + other_things() + rows() + whole_numbers():
            self.refused_with(NoHouse, found, houses.number, found)

    def test_houses_of_other_ones_are_none(self):
        Houses(["a", "b"])
        self.refused_with(NoHouse, "b", Houses(["a", "c"]).number, "b")

    def test_a_name_that_was_put_together_elsewhere(self):
        self.assertEqual(Houses(TWELVE).number("".join(["ba", "rn"])), 2)


class Same(unittest.TestCase):
    def test_same_names_in_the_same_order(self):
        self.assertIs(same_houses(Houses(["a", "b"]), Houses(("a", "b"))), True)
        houses = Houses(TWELVE)
        self.assertIs(same_houses(houses, houses), True)

    def test_others(self):
        for names in (["b", "a"], ["a"], ["a", "b", "c"], ["a", "c"], ["c", "b"]):
            self.assertIs(same_houses(Houses(["a", "b"]), Houses(names)), False)
            self.assertIs(same_houses(Houses(names), Houses(["a", "b"])), False)

    def test_by_name(self):
        self.assertIs(same_houses(other=Houses(["a"]), one=Houses(["a"])), True)


class Masks(Refusals):
    def test_some_masks(self):
        houses = Houses(["inn", "barn", "abbey"])
        self.assertEqual(houses.mask([]), 0)
        self.assertEqual(houses.mask(()), 0)
        self.assertEqual(houses.mask(["inn"]), 1)
        self.assertEqual(houses.mask(["abbey", "inn"]), 5)
        self.assertEqual(houses.mask(("barn", "abbey", "inn")), 7)
        self.assertIs(type(houses.mask([])), int)

    def test_all_sets_of_twelve_there_and_back(self):
        houses = Houses(TWELVE)
        for mask in range(4096):
            some = [name for at, name in enumerate(TWELVE) if mask // 2**at % 2]
            self.assertEqual(houses.set_of(mask), some)
            self.assertEqual(houses.mask(some), mask)
            self.assertEqual(houses.mask(tuple(some[::-1])), mask)
        self.assertEqual(houses.mask(TWELVE), 4095)

    def test_by_name(self):
        houses = Houses(["a", "b"])
        self.assertEqual(houses.mask(names=["b"]), 2)
        self.assertEqual(houses.set_of(mask=2), ["b"])

    def test_what_is_no_set(self):
        houses = Houses(TWELVE)
        for found in other_things() + texts() + whole_numbers():
            self.refused_with(NoSet, found, houses.mask, found)

    def test_a_thing_that_is_no_house(self):
        houses = Houses(TWELVE)
        for thing in ["b", "Mill", "lots", "", "mill\n"] + other_things() + rows() + whole_numbers():
            for some in ([thing], (thing, "mill"), ["mill", thing], ("mill", "inn", thing, None)):
                self.refused_with(NoHouse, thing, houses.mask, some)

    def test_a_house_twice(self):
        houses = Houses(TWELVE)
        for name in TWELVE:
            again = "".join(list(name))
            self.refused_with(Twice, again, houses.mask, [name, again])
            self.refused_with(Twice, again, houses.mask, tuple(TWELVE) + (again,))
        self.assertEqual(self.refused(Twice, houses.mask, ["inn", "mill", "barn", "mill", "inn"]).found, "mill")

    def test_the_first_of_two_refusals_thing_by_thing(self):
        houses = Houses(TWELVE)
        self.refused_with(Twice, "mill", houses.mask, ["mill", "mill", "b"])
        self.refused_with(NoHouse, "b", houses.mask, ["mill", "b", "mill"])
        self.refused_with(NoHouse, "b", houses.mask, ["b", "b"])
        self.refused_with(NoHouse, None, houses.mask, [None, 7])
        self.assertEqual(self.refused(NoHouse, houses.mask, [0] * 4100).found, 0)

    def test_edges_of_masks(self):
        for many in range(1, 13):
            houses = Houses(TWELVE[:many])
            self.assertEqual(houses.set_of(0), [])
            self.assertEqual(houses.set_of(2**many - 1), TWELVE[:many])
            for found in (2**many, 2**many + 1, 10**29, -1, -(2**many)):
                self.refused_with(NoNumber, found, houses.set_of, found)
        self.refused_with(NoNumber, 4095, Houses(TWELVE[:11]).set_of, 4095)

    def test_what_is_no_mask(self):
        houses = Houses(TWELVE)
        for found in other_things() + texts() + rows() + [-1, -7, 4096, 10**30 - 1]:
            self.refused_with(NoNumber, found, houses.set_of, found)


class Order(unittest.TestCase):
    def test_counts(self):
        for mask in range(4096):
            self.assertIs(type(count_of(mask)), int)
            self.assertEqual(count_of(mask), bin(mask).count("1"))

    def test_keys(self):
        self.assertEqual(key_of(0), (0, ()))
        self.assertEqual(key_of(6), (2, (1, 2)))
        self.assertEqual(key_of(4095), (12, tuple(range(12))))
        for mask in range(4096):
            key = key_of(mask)
            self.assertEqual((type(key), type(key[0]), type(key[1])), (tuple, int, tuple))
            self.assertEqual(key, (len(key[1]), tuple(at for at in range(12) if mask // 2**at % 2)))

    def test_all_sets_stand_in_order(self):
        masks = masks_by_order(12)
        self.assertEqual(in_order(list(range(4096))), masks)
        self.assertEqual(in_order(tuple(range(4095, -1, -1))), masks)
        keys = [key_of(mask) for mask in masks]
        self.assertTrue(all(one < other for one, other in zip(keys, keys[1:])))

    def test_fewer_stand_ahead_then_the_first_house_that_differs(self):
        self.assertEqual(in_order([7, 6, 5, 3, 4, 2, 1, 0]), [0, 1, 2, 4, 3, 5, 6, 7])
        self.assertEqual(in_order([6, 9]), [9, 6])
        self.assertEqual(in_order([3, 2048]), [2048, 3])

    def test_those_that_are_alike_all_stand_there(self):
        self.assertEqual(in_order([3, 0, 3, 1, 0, 3]), [0, 0, 1, 3, 3, 3])
        self.assertEqual(in_order((4095,) * 4100), [4095] * 4100)

    def test_a_new_list(self):
        masks = [0, 1]
        told = in_order(masks)
        self.assertIs(type(told), list)
        told.append(2)
        self.assertEqual(masks, [0, 1])
        self.assertEqual(in_order([]), [])
        self.assertEqual(in_order(()), [])

    def test_by_name(self):
        self.assertEqual(count_of(mask=5), 2)
        self.assertEqual(key_of(mask=5), (2, (0, 2)))
        self.assertEqual(in_order(masks=[1, 0]), [0, 1])


if __name__ == "__main__":
    unittest.main()
