"""Names ([0.8])."""

import string
import unittest

from heardlate.base.names import is_name
from tests.samples import ODD


class Names(unittest.TestCase):
    def test_one_to_eight_lowercase_letters(self):
        for value in ("a", "z", "az", "start", "self", "abcdefgh", "zzzzzzzz") + tuple(string.ascii_lowercase):
            with self.subTest(value):
                self.assertIs(is_name(value), True)

    def test_length(self):
        self.assertIs(is_name(""), False)
        for length in range(1, 12):
            self.assertIs(is_name("m" * length), length <= 8)

    def test_every_other_ascii_sign_is_wrong_in_every_place(self):
        for code in range(128):
            sign = chr(code)
            for value in (sign, sign + "a", "a" + sign, "a" + sign + "a", "a" + sign * 7):
                with self.subTest(value):
                    self.assertIs(is_name(value), sign in string.ascii_lowercase)

    def test_letters_of_other_alphabets_are_wrong(self):
        for value in ("\u00e4", "a\u00e4", "\u00df", "\u03b1"):
            self.assertIs(is_name(value), False)

    def test_other_values_are_no_names(self):
        for value in ODD:
            if value not in ("start", "zz"):
                with self.subTest(repr(value)):
                    self.assertIs(is_name(value), False)
        for value in (b"a", ("a",), ["a"], {"a": "a"}):
            self.assertIs(is_name(value), False)


if __name__ == "__main__":
    unittest.main()
