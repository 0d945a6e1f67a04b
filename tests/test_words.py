"""Promise 2: is_name and is_number judge any value."""

import unittest

from pooledeyes.words import is_name, is_number
from tests.anyvalues import any_values, without_strings


class NamesTest(unittest.TestCase):
    def judged(self, value):
        """What is_name says of a value, by place and by name, once and again."""
        said = [is_name(value), is_name(value), is_name(value=value), is_name(value=value)]
        self.assertEqual(said, [said[0]] * 4)
        self.assertIsInstance(said[0], bool)
        return said[0]

    def test_one_to_six_letters(self):
        for name in ["a", "z", "ab", "abc", "abcd", "abcde", "abcdef", "zzzzzz", "pool", "eye", "common"]:
            self.assertIs(self.judged(name), True, name)

    def test_every_letter(self):
        for letter in "abcdefghijklmnopqrstuvwxyz":
            self.assertIs(self.judged(letter), True, letter)

    def test_no_letter_and_seven_letters(self):
        for value in ["", "abcdefg", "aaaaaaa", "a" * 12000]:
            self.assertIs(self.judged(value), False, value)

    def test_every_other_character(self):
        letters = "abcdefghijklmnopqrstuvwxyz"
        for code in [10] + list(range(32, 256)) + [0x430, 0x3b1, 0x661, 0xff41]:
            if chr(code) not in letters:
                for value in [chr(code), "a" + chr(code), chr(code) + "a", "a" + chr(code) + "a"]:
                    self.assertIs(self.judged(value), False, value)

    def test_other_kinds(self):
        for value in without_strings():
            self.assertIs(self.judged(value), False, value)


class NumbersTest(unittest.TestCase):
    def judged(self, value, least, most):
        """What is_number says, by place and by name, once and again."""
        said = [is_number(value, least, most), is_number(value, least, most),
                is_number(value=value, least=least, most=most), is_number(most=most, least=least, value=value)]
        self.assertEqual(said, [said[0]] * 4)
        self.assertIsInstance(said[0], bool)
        return said[0]

    def test_the_bounds_are_in(self):
        for value in range(-3, 8):
            self.assertIs(self.judged(value, -1, 5), -1 <= value <= 5, value)
        self.assertIs(self.judged(3, 3, 3), True)
        self.assertIs(self.judged(2, 3, 3), False)
        self.assertIs(self.judged(4, 3, 3), False)

    def test_no_number_is_between_crossed_bounds(self):
        for value in range(5):
            self.assertIs(self.judged(value, 3, 2), False)

    def test_great_numbers(self):
        self.assertIs(self.judged(999999999, 0, 999999999), True)
        self.assertIs(self.judged(-999999999, -999999999, 0), True)
        self.assertIs(self.judged(10 ** 30, 0, 999999999), False)

    def test_true_and_false_are_no_numbers(self):
        self.assertIs(self.judged(True, 0, 1), False)
        self.assertIs(self.judged(False, 0, 1), False)
        self.assertIs(self.judged(True, -9, 9), False)
        self.assertIs(self.judged(1, 0, 1), True)
        self.assertIs(self.judged(0, 0, 1), True)

    def test_other_kinds(self):
        for value in any_values():
            is_integer = isinstance(value, int) and not isinstance(value, bool)
            self.assertIs(self.judged(value, -999999999, 999999999), is_integer, value)


if __name__ == "__main__":
    unittest.main()
