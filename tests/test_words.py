"""[2] and the interface of words.py."""

import unittest

from helper import ODD_VALUES
from oncethrough.words import is_name, is_number, number_in


class Names(unittest.TestCase):
    def test_names(self):
        for value in ("a", "z", "ab", "abc", "abcdef", "azazaz", "not", "true"):
            self.assertIs(is_name(value), True, value)

    def test_no_names(self):
        for value in ("", "abcdefg", "abcdefghijkl", "A", "aB", "Abcdef", "a1", "1", "a_b", "_", "a b", " a", "a ", "a\n",
                      "\n", "a-b", ":", "a:", "`", "{", "@", "[", 1, 0, True, False, None, (), [], ("a",), ["a"],
                      ("a", "b"), (("a",),), *ODD_VALUES):
            self.assertIs(is_name(value), False, repr(value))

    def test_by_name(self):
        self.assertIs(is_name(value="road"), True)


class Numbers(unittest.TestCase):
    def test_numbers(self):
        for value, least, most in ((0, 0, 0), (0, 0, 1), (1, 0, 1), (5, -3, 9), (-3, -3, 9), (9, -3, 9),
                                   (999999999999999, 0, 999999999999999), (-5, -5, -5)):
            self.assertIs(is_number(value, least, most), True)

    def test_beyond(self):
        for value, least, most in ((-1, 0, 1), (2, 0, 1), (-4, -3, 9), (10, -3, 9), (0, 1, 0), (1, 1, 0),
                                   (10 ** 15, 0, 10 ** 15 - 1)):
            self.assertIs(is_number(value, least, most), False)

    def test_other_kinds(self):
        for value in (True, False, None, "1", "", "a", (), (1,), [], [1], ((1,),), [[1]]):
            self.assertIs(is_number(value, -10, 10), False, repr(value))

    def test_by_name(self):
        self.assertIs(is_number(value=3, least=3, most=4), True)
        self.assertIs(is_number(most=3, value=4, least=3), False)


class WrittenNumbers(unittest.TestCase):
    def test_numbers(self):
        for word, number in (("0", 0), ("7", 7), ("10", 10), ("100", 100), ("9" * 15, 10 ** 15 - 1)):
            self.assertEqual(number_in(word), number)

    def test_none(self):
        for word in ("", "00", "01", "007", "-1", "+1", "1.0", "1_0", " 1", "1 ", "a", "1a", "1" + "0" * 15, "9" * 6000,
                     "\n", "1\n", "0x1"):
            self.assertEqual(number_in(word), -1, repr(word))


if __name__ == "__main__":
    unittest.main()
