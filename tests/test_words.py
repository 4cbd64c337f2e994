"""Points 3 and 4: names and written numbers."""

import unittest

from barbreaks.errors import BadText
from barbreaks.words import is_name, read_number, write_number
from tests.helpers import Case

SMALL = "abcdefghijklmnopqrstuvwxyz"
DIGITS = "0123456789"
SIGNS = [chr(code) for code in range(32, 127) if chr(code) != "%"] + ["\n", "\t"]


class TestNames(unittest.TestCase):
    def test_names(self):
        for text in ["a", "z", "a0", "z9", "noon", "x1y2", "abcdefghijkl", "a12345678901"]:
            self.assertIs(is_name(text), True, text)

    def test_lengths(self):
        for length in range(20):
            self.assertIs(is_name("a" * length), 1 <= length <= 12, length)

    def test_first_sign(self):
        for sign in SIGNS:
            self.assertIs(is_name(sign), sign in SMALL, sign)
            self.assertIs(is_name(sign + "a"), sign in SMALL, sign)

    def test_later_signs(self):
        for sign in SIGNS:
            right = sign in SMALL or sign in DIGITS
            self.assertIs(is_name("a" + sign), right, sign)
            self.assertIs(is_name("a" + sign + "b"), right, sign)
            self.assertIs(is_name("abcdefghijk" + sign), right, sign)


class TestNumbers(Case):
    def test_written(self):
        self.assertEqual(write_number(0), "0")
        self.assertEqual(write_number(7), "7")
        self.assertEqual(write_number(-7), "-7")
        self.assertEqual(write_number(1200), "1200")
        self.assertEqual(write_number(-10 ** 39), "-1" + "0" * 39)

    def test_written_with_4000_digits(self):
        self.assertEqual(write_number(10 ** 3999), "1" + "0" * 3999)
        self.assertEqual(write_number(-(10 ** 3999)), "-1" + "0" * 3999)

    def test_read(self):
        for number in [*range(-120, 121), 10 ** 20 + 7, -10 ** 20]:
            self.assertEqual(read_number(write_number(number)), number)

    def test_kind(self):
        self.assertIs(type(read_number("12")), int)
        self.assertIs(type(write_number(12)), str)

    def test_forty_digits(self):
        self.assertEqual(read_number("9" * 40), 10 ** 40 - 1)
        self.assertEqual(read_number("-" + "9" * 40), 1 - 10 ** 40)
        self.assertEqual(read_number("1" + "0" * 39), 10 ** 39)

    def test_forty_one_digits(self):
        for text in ["9" * 41, "-" + "9" * 41, "1" + "0" * 40, "1" * 5000]:
            self.refuses(BadText(text), read_number, text)

    def test_wrong_spellings(self):
        for text in ["", "-", "+", "+1", "01", "-01", "-0", "00", "-00", "+0", " 1", "1 ", "- 1",
                     "--1", "-+1", "1-", "1\n", "\n1", "1\t", "1 2", "1_0", "1.0", "1e3", "0x1",
                     "1,0", "one", "a", "1a", "0 ", "0" * 40, "0" + "1" * 39]:
            self.refuses(BadText(text), read_number, text)

    def test_each_sign(self):
        for sign in SIGNS:
            if sign not in DIGITS:
                for text in [sign, "1" + sign, "1" + sign + "1"]:
                    self.refuses(BadText(text), read_number, text)
                if sign != "-":
                    self.refuses(BadText(sign + "1"), read_number, sign + "1")
                    self.refuses(BadText("-" + sign), read_number, "-" + sign)


if __name__ == "__main__":
    unittest.main()
