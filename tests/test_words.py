"""Promises [2] and [10]: whole numbers, names, own words, numbers in texts."""

import string
import unittest

from alwaysmeet.words import is_name, is_whole, is_within, number_in, own_words

from things import TWELVE, other_things, rows, texts, whole_numbers

OWN = "lots many weights grid wall tree put reads writes none stands falls all".split()


class Whole(unittest.TestCase):
    def test_whole_numbers(self):
        for thing in whole_numbers():
            self.assertIs(is_whole(thing), True)

    def test_what_is_none(self):
        for thing in other_things() + rows() + texts():
            self.assertIs(is_whole(thing), False)

    def test_by_name(self):
        self.assertIs(is_whole(thing=3), True)


class Within(unittest.TestCase):
    def test_both_ends_are_counted(self):
        told = [is_within(thing, -2, 3) for thing in range(-4, 6)]
        self.assertEqual(told, [False, False, True, True, True, True, True, True, False, False])

    def test_one_number_alone_and_none(self):
        self.assertIs(is_within(5, 5, 5), True)
        self.assertIs(is_within(5, 6, 4), False)

    def test_numbers_of_thirty_figures(self):
        most = 10**30 - 1
        self.assertIs(is_within(most, most, most), True)
        self.assertIs(is_within(-most, -most, most), True)
        self.assertIs(is_within(most, 0, most - 1), False)

    def test_what_is_no_number(self):
        for thing in other_things() + rows() + texts():
            self.assertIs(is_within(thing, -(10**29), 10**29), False)

    def test_truths_are_no_numbers(self):
        self.assertIs(is_within(True, 0, 1), False)
        self.assertIs(is_within(False, 0, 1), False)

    def test_by_name(self):
        self.assertIs(is_within(high=3, low=1, thing=2), True)
        self.assertIs(is_within(high=1, low=3, thing=2), False)


class Names(unittest.TestCase):
    def test_names(self):
        for thing in TWELVE + ["a", "z", "abcdef", "uvwxyz"]:
            self.assertIs(is_name(thing), True)

    def test_each_small_letter(self):
        for letter in string.ascii_lowercase:
            for thing in (letter, letter * 6, "a" + letter, letter + "a"):
                self.assertIs(is_name(thing), True)

    def test_too_few_and_too_many_letters(self):
        for thing in ("", "abcdefg", "a" * 7, "a" * 61447):
            self.assertIs(is_name(thing), False)

    def test_no_other_sign_at_any_place(self):
        signs = [chr(at) for at in range(32, 127)] + ["\n"]
        for sign in signs:
            if sign not in string.ascii_lowercase:
                for thing in (sign, sign + "ab", "a" + sign + "b", "ab" + sign):
                    self.assertIs(is_name(thing), False)

    def test_own_words_are_none(self):
        for word in OWN:
            self.assertIs(is_name(word), False)

    def test_what_begins_with_an_own_word_is_one(self):
        for thing in ("lotsa", "manys", "walls", "alla", "puts", "nones", "gridd", "treea", "lot", "stand", "al"):
            self.assertIs(is_name(thing), True)

    def test_what_is_no_text(self):
        for thing in other_things() + rows() + whole_numbers():
            self.assertIs(is_name(thing), False)

    def test_by_name(self):
        self.assertIs(is_name(thing="mill"), True)


class OwnWords(unittest.TestCase):
    def test_in_that_order(self):
        self.assertIs(type(own_words()), list)
        self.assertEqual(own_words(), OWN)

    def test_a_new_list_each_time(self):
        told = own_words()
        told.clear()
        self.assertEqual(own_words(), OWN)
        self.assertIs(is_name("lots"), False)


class NumberIn(unittest.TestCase):
    def test_numbers(self):
        for number in list(range(0, 1200)) + [10**29, 10**30 - 1]:
            told = number_in(str(number), 0, 10**30 - 1)
            self.assertIs(type(told), int)
            self.assertEqual(told, number)

    def test_both_ends_are_counted(self):
        told = [number_in(text, 3, 5) for text in "23456"]
        self.assertEqual(told, [None, 3, 4, 5, None])
        self.assertIsNone(number_in("4", 5, 3))
        self.assertEqual(number_in("0", -3, 0), 0)
        self.assertEqual(number_in("10", 10, 10), 10)

    def test_thirty_figures_and_thirty_one(self):
        high = 10**30 - 1
        self.assertEqual(number_in("9" * 30, 0, high), high)
        self.assertIsNone(number_in("9" * 30, 0, high - 1))
        self.assertIsNone(number_in("1" + "0" * 30, 0, 10**31))
        self.assertIsNone(number_in("0" * 30, 0, 9))
        self.assertIsNone(number_in("9" * 61447, 0, high))

    def test_no_nought_ahead(self):
        self.assertEqual(number_in("0", 0, 9), 0)
        for text in ("00", "01", "007", "0" * 29 + "1"):
            self.assertIsNone(number_in(text, 0, 9))

    def test_no_other_sign_at_any_place(self):
        signs = [chr(at) for at in range(32, 127)] + ["\n"]
        for sign in signs:
            if sign not in string.digits:
                for text in (sign, sign + "12", "1" + sign + "2", "12" + sign):
                    self.assertIsNone(number_in(text, -99, 999))

    def test_a_text_without_signs(self):
        self.assertIsNone(number_in("", -9, 9))

    def test_what_is_no_text(self):
        for thing in other_things() + rows() + whole_numbers() + [["7"], ("7",), {"7": 7}]:
            self.assertIsNone(number_in(thing, -(10**29), 10**29))

    def test_by_name(self):
        self.assertEqual(number_in(high=9, low=3, text="5"), 5)
        self.assertIsNone(number_in(high=3, low=9, text="5"))


if __name__ == "__main__":
    unittest.main()
