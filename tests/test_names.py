"""Names: point 60."""

import unittest
from itertools import product

from matedsquares import names as module
from matedsquares.names import is_name

LETTERS = "abcdefghijklmnopqrstuvwxyz"
NAMES = ["a", "z", "s1", "q0", "abc", "x9y8", "abcdefghijkl", "z00000000000", "mate", "end", "square"]
NO_NAMES = [
    "", " ", "0", "9a", "1", "A", "Z", "aB", "abC", "a b", " a", "a ", "a_", "_a", "a-b", "a.b", "-", "a\n",
    "\n", "a\tb", "\u00e4", "a\u00e4", "\u00df", "a\u0663", "a\u00b2", "abcdefghijklm", "a000000000000",
    "a" * 13, "a" * 100, "\u0430", "a\u0430", "{a", "a`", "a{", "a/", "a:", "a\u0000",
]


class NamesTest(unittest.TestCase):
    def test_names(self):
        for text in NAMES + [letter * 12 for letter in LETTERS] + ["a" * n for n in range(1, 13)]:
            self.assertIs(is_name(text), True, text)

    def test_no_names(self):
        for text in NO_NAMES:
            self.assertIs(is_name(text), False, repr(text))

    def test_all_of_two_characters(self):
        characters = [chr(code) for code in range(300)]
        for one, other in product(characters, characters):
            right = one in LETTERS and other in LETTERS + "0123456789"
            self.assertIs(is_name(one + other), right)
        for one in characters:
            self.assertIs(is_name(one), one in LETTERS)

    def test_interface(self):
        self.assertEqual(module.is_name.__module__, "matedsquares.names")


if __name__ == "__main__":
    unittest.main()
