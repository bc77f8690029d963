"""Promises [5], [14], [15] and [16]: shares."""

import copy
import fractions
import itertools
import unittest

from alwaysmeet.errors import NoShare
from alwaysmeet.fractions import (
    is_share, less_than, minus_share, plus_share, share_in, share_of, share_text, sum_shares, times_share,
)

from things import Refusals, other_things, rows, texts, whole_numbers

FORTY = 10**39 + 1
MOST = 10**400 - 1
MORE = 10**400 + 1
SHARES = [
    (0, 1), (1, 1), (2, 1), (1, 2), (3, 8), (5, 6), (7, 12), (99, 100), (FORTY, 1), (1, FORTY), (FORTY, FORTY - 1),
    (MOST, 1), (1, MOST), (MOST - 1, MOST), (MORE, 1), (1, MORE), (MORE - 1, MORE),
]


def no_shares():
    """Things of every kind that are no shares."""
    wrong = [
        (0, 2), (2, 4), (6, 3), (MOST, MOST), (0, 0), (1, 0), (-1, 2), (1, -2), (-1, -2), (0, -1), (-MOST, 1),
        [1, 2], (1,), (1, 2, 3), (1, 2, None), (True, 1), (1, True), (False, 1), (True, 2), (None, 1), (1, None),
        ("1", "2"), ("1", 2), (1, "2"), ((1, 2), 1), (1, (1, 2)), ([], []), ({}, 1), "1/2", "1", {1: 2}, {(1, 2): 1},
    ]
    return wrong + other_things() + rows() + texts() + whole_numbers()


def as_number(share):
    return fractions.Fraction(share[0], share[1])


def as_share(number):
    return number.numerator, number.denominator


class Is(unittest.TestCase):
    def test_shares(self):
        for share in SHARES:
            self.assertIs(is_share(share), True)
            self.assertIs(is_share(thing=share), True)

    def test_all_small_tuples(self):
        for top, bottom in itertools.product(range(-3, 14), repeat=2):
            told = top >= 0 and bottom >= 1 and as_share(fractions.Fraction(top, bottom)) == (top, bottom)
            self.assertIs(is_share((top, bottom)), told, (top, bottom))

    def test_others(self):
        for thing in no_shares():
            self.assertIs(is_share(thing), False)


class Making(Refusals):
    def test_lowest_terms(self):
        for top, bottom in itertools.product(range(0, 30), range(1, 30)):
            self.assertEqual(share_of(top, bottom), as_share(fractions.Fraction(top, bottom)))

    def test_edges(self):
        self.assertEqual(share_of(0, 1), (0, 1))
        self.assertEqual(share_of(0, MORE), (0, 1))
        self.assertEqual(share_of(MORE, MORE), (1, 1))
        self.assertEqual(share_of(6 * MOST, 4), as_share(fractions.Fraction(6 * MOST, 4)))
        self.assertEqual(share_of(bottom=4, top=2), (1, 2))
        self.assertIs(type(share_of(1, 2)), tuple)

    def test_what_is_no_top_or_no_bottom(self):
        wrong = other_things() + rows() + texts() + [-1, -MOST, (1, 2)]
        for thing in wrong:
            for pair in ((thing, 1), (thing, 0), (thing, thing)):
                found = self.refused(NoShare, share_of, *pair).found
                self.assertIs(type(found), tuple)
                self.assertEqual(len(found), 2)
                self.assertIs(found[0], pair[0])
                self.assertIs(found[1], pair[1])
        for thing in wrong + [0]:
            for pair in ((1, thing), (0, thing)):
                found = self.refused(NoShare, share_of, *pair).found
                self.assertEqual((type(found), len(found), found[0]), (tuple, 2, pair[0]))
                self.assertIs(found[1], thing)


class Counting(Refusals):
    def test_two_shares(self):
        for one, other in itertools.product(SHARES, repeat=2):
            first, second = as_number(one), as_number(other)
            self.assertEqual(plus_share(one, other), as_share(first + second))
            self.assertEqual(times_share(one, other), as_share(first * second))
            self.assertIs(less_than(one, other), first < second)
            if first >= second:
                self.assertEqual(minus_share(one, other), as_share(first - second))
            else:
                found = self.refused(NoShare, minus_share, one, other).found
                self.assertEqual((type(found), found), (tuple, (one, other)))

    def test_all_small_shares(self):
        small = [(top, bottom) for top in range(9) for bottom in range(1, 9) if is_share((top, bottom))]
        for one, other in itertools.product(small, repeat=2):
            first, second = as_number(one), as_number(other)
            for told, number in ((plus_share(one, other), first + second), (times_share(one, other), first * second)):
                self.assertEqual(told, as_share(number))
                self.assertTrue(is_share(told))
            self.assertIs(less_than(one, other), first < second)

    def test_by_name(self):
        one, other = (1, 2), (1, 3)
        self.assertEqual(plus_share(other=other, one=one), (5, 6))
        self.assertEqual(minus_share(other=other, one=one), (1, 6))
        self.assertEqual(times_share(other=other, one=one), (1, 6))
        self.assertIs(less_than(other=one, one=other), True)
        self.assertEqual(sum_shares(shares=[one, other]), (5, 6))

    def test_what_is_no_share(self):
        for ask in (plus_share, minus_share, times_share, less_than):
            for thing in no_shares():
                self.refused_with(NoShare, thing, ask, thing, (1, 2))
                self.refused_with(NoShare, thing, ask, (0, 1), thing)
                self.refused_with(NoShare, thing, ask, thing, [])
                self.refused_with(NoShare, thing, ask, thing, (4, 2))

    def test_the_tuple_of_both_is_refused_last(self):
        one, other = (1, 3), (1, 2)
        found = self.refused(NoShare, minus_share, one, other).found
        self.assertEqual(found, (one, other))
        self.assertIs(found[0], one)
        self.assertIs(found[1], other)
        self.refused_with(NoShare, None, minus_share, (0, 1), None)


class Sum(Refusals):
    def test_sums(self):
        self.assertEqual(sum_shares([]), (0, 1))
        self.assertEqual(sum_shares(()), (0, 1))
        self.assertEqual(sum_shares([(0, 1)]), (0, 1))
        self.assertEqual(sum_shares(((1, 2), (1, 3), (1, 6))), (1, 1))
        self.assertEqual(sum_shares([(3, 8)]), (3, 8))
        self.assertEqual(sum_shares(SHARES), as_share(sum(as_number(share) for share in SHARES)))

    def test_as_many_as_may_be_handed_in(self):
        many = [(1, number) for number in range(1, 4101)]
        self.assertEqual(sum_shares(many), as_share(sum(as_number(share) for share in many)))
        self.assertEqual(sum_shares([(MOST, MOST - 1)] * 4100), share_of(4100 * MOST, MOST - 1))

    def test_nothing_is_changed(self):
        shares = [(1, 2), (1, 3)]
        sum_shares(shares)
        self.assertEqual(shares, [(1, 2), (1, 3)])

    def test_what_is_no_list_and_no_tuple(self):
        for thing in other_things() + texts() + whole_numbers():
            self.refused_with(NoShare, thing, sum_shares, thing)

    def test_the_first_thing_that_is_no_share(self):
        for thing in no_shares():
            self.refused_with(NoShare, thing, sum_shares, [thing])
            self.refused_with(NoShare, thing, sum_shares, ((1, 2), thing, (2, 4), None))
            self.refused_with(NoShare, thing, sum_shares, [(1, 2)] * 4099 + [thing])
        self.assertEqual(self.refused(NoShare, sum_shares, (1, 2)).found, 1)


class Texts(Refusals):
    def test_texts(self):
        for share, text in (
            ((0, 1), "0"), ((1, 1), "1"), ((2, 1), "2"), ((3, 8), "3/8"), ((1, 10), "1/10"), ((10, 1), "10"),
            ((FORTY, 1), str(FORTY)), ((1, FORTY), f"1/{FORTY}"), ((MOST, MOST - 1), f"{MOST}/{MOST - 1}"),
        ):
            self.assertEqual(share_text(share), text)
            self.assertEqual(share_in(text), share)
            self.assertEqual(share_text(share=share), text)
            self.assertEqual(share_in(text=text), share)
            self.assertTrue(is_share(share_in(text)))

    def test_all_small_shares_there_and_back(self):
        for top, bottom in itertools.product(range(13), range(1, 13)):
            if is_share((top, bottom)):
                self.assertEqual(share_in(share_text((top, bottom))), (top, bottom))
            else:
                self.refused(NoShare, share_in, f"{top}/{bottom}")

    def test_four_hundred_and_one_figures(self):
        self.assertEqual(share_text((MORE, 1)), str(MORE))
        self.assertEqual(share_text((1, MORE)), f"1/{MORE}")
        for text in (str(MORE), f"1/{MORE}", f"{MORE}/2", "1" * 401, "9" * 61447, "1/" + "3" * 61445):
            self.refused_with(NoShare, text, share_in, text)

    def test_what_is_no_share(self):
        for thing in no_shares():
            self.refused_with(NoShare, thing, share_text, thing)

    def test_what_is_no_text_of_a_share(self):
        wrong = [
            "2/4", "2/1", "0/1", "1/1", "02", "00", "1/0", "0/0", "0/2", "1/02", "01/2", "/", "1/", "/2", "1//2",
            "1/2/3", " 1/2", "1/2 ", "1 /2", "1/ 2", "-1", "-1/2", "1/-2", "+1", "1.5", "1_0", "1\n", "\n1", "a", "",
            "1/2\n", "half", "0x1", "1e3", "2/6", "10/4", "0" * 400, "1\\2",
        ]
        things = other_things() + rows() + [-1, 0, 1, (1, 2), (0, 1)]
        for thing in wrong + things + [text for text in texts() if text not in ("0", "7")]:
            self.refused_with(NoShare, thing, share_in, thing)

    def test_what_is_refused_is_not_changed(self):
        thing = [(1, 2), [1]]
        was = copy.deepcopy(thing)
        for ask in (share_text, share_in, sum_shares):
            self.refused(NoShare, ask, thing)
        self.assertEqual(thing, was)


if __name__ == "__main__":
    unittest.main()
