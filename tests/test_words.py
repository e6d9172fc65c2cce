"""Points 11 and 12: whole numbers, names, values, plain numbers, own words."""

import unittest

from leastlore.words import is_name, is_value, is_whole, is_within, own_words, plain_number
from tests.things import SIXTY, strange_things

OWN = "all key days turns last ends now both either but let bar frame find known ask".split()


class Wholes(unittest.TestCase):

    def test_ints_are_whole_numbers(self):
        for number in (0, 1, -1, 400, 10 ** 30, SIXTY, -SIXTY):
            self.assertIs(is_whole(number), True)

    def test_all_else_is_none(self):
        for thing in strange_things():
            if type(thing) is not int:
                self.assertIs(is_whole(thing), False, thing)

    def test_within_has_both_ends(self):
        for number in range(-5, 12):
            self.assertIs(is_within(number, -1, 7), -1 <= number <= 7)
        self.assertIs(is_within(3, 3, 3), True)
        self.assertIs(is_within(3, 4, 2), False)
        self.assertIs(is_within(SIXTY, 0, SIXTY), True)
        self.assertIs(is_within(SIXTY, 0, SIXTY - 1), False)

    def test_no_other_thing_is_within(self):
        for thing in strange_things():
            if type(thing) is not int:
                self.assertIs(is_within(thing, -SIXTY, SIXTY), False, thing)
        self.assertIs(is_within(True, 0, 1), False)
        self.assertIs(is_within(False, 0, 1), False)

    def test_arguments_by_name(self):
        self.assertIs(is_whole(thing=1), True)
        self.assertIs(is_within(thing=1, low=1, high=1), True)
        self.assertIs(is_name(thing="a"), True)
        self.assertIs(is_value(thing="a"), True)
        self.assertEqual(plain_number(thing="7", most=7), 7)


class Names(unittest.TestCase):

    def test_one_to_eight_small_letters(self):
        for many in range(12):
            for letter in "amz":
                self.assertIs(is_name(letter * many), 1 <= many <= 8)
                self.assertIs(is_value(letter * many), 1 <= many <= 12)
        self.assertIs(is_value("a" * 13), False)

    def test_own_words_are_no_names_but_values(self):
        for word in OWN:
            self.assertIs(is_name(word), False, word)
            self.assertIs(is_value(word), True, word)
        for word in ("al", "alls", "keys", "day", "nows", "asks", "findk", "read", "drop"):
            self.assertIs(is_name(word), True, word)

    def test_each_sign_by_itself(self):
        letters = "abcdefghijklmnopqrstuvwxyz"
        signs = [chr(code) for code in range(600)] + ["\u0660", "\u0430", "\uff11", "\uff41", "\U0001d7d8"]
        for sign in signs:
            self.assertIs(is_name(sign), sign in letters, sign)
            self.assertIs(is_value(sign), sign in letters + "0123456789", sign)
            for text in ("a" + sign, sign + "a"):
                self.assertIs(is_name(text), sign in letters, text)
                self.assertIs(is_value(text), sign in letters + "0123456789", text)

    def test_figures_alone_are_a_value_and_no_name(self):
        for text in ("0", "00", "123456789012", "7x"):
            self.assertIs(is_value(text), True)
            self.assertIs(is_name(text), False)

    def test_no_other_thing_is_one(self):
        for thing in strange_things() + [["a"], ("a",), {"a": "a"}, 7, b"a"]:
            self.assertIs(is_name(thing), False, thing)
            self.assertIs(is_value(thing), thing == "find", thing)


class PlainNumbers(unittest.TestCase):

    def test_numbers_one_by_one(self):
        for most in (0, 1, 9, 10, 99, 100, 399, 400):
            for number in range(450):
                expected = number if number <= most else None
                self.assertEqual(plain_number(str(number), most), expected)

    def test_noughts_ahead(self):
        self.assertEqual(plain_number("0", 0), 0)
        for text in ("00", "01", "000", "0400", "0" * 20000):
            self.assertIsNone(plain_number(text, 400))
            self.assertIsNone(plain_number(text, SIXTY))

    def test_many_figures(self):
        thirty = 10 ** 30 - 1
        self.assertEqual(plain_number(str(thirty), thirty), thirty)
        self.assertIsNone(plain_number(str(thirty + 1), thirty))
        self.assertIsNone(plain_number(str(thirty), thirty - 1))
        for many in (31, 60, 4300, 4301, 20000):
            self.assertIsNone(plain_number("9" * many, thirty))
            self.assertIsNone(plain_number("1" * many, 0))

    def test_what_writes_no_number(self):
        for text in ("", " ", "1 ", " 1", "1\n", "\n1", "+1", "-1", "-0", "1_0", "1.0", "1e1", "0x1", "a", "1a",
                     "\u00b2", "\u0661", "\uff11", "1\u0661"):
            self.assertIsNone(plain_number(text, 10 ** 29), text)

    def test_any_thing(self):
        for thing in strange_things() + [0, 7, ["7"], ("7",), b"7"]:
            self.assertIsNone(plain_number(thing, 400), thing)


class OwnWords(unittest.TestCase):

    def test_in_their_order_and_new_each_time(self):
        first = own_words()
        self.assertEqual(first, OWN)
        first.append("more")
        self.assertEqual(own_words(), OWN)
        self.assertIs(type(own_words()), list)
