"""The written form of squares: points 8 and 9."""

import copy
import unittest

from matedsquares.errors import InvalidNotation, InvalidSquare
from matedsquares.notation import format_square, parse_square
from matedsquares.squares import checked
from tests.test_squares import GREAT, NO_TREES, SMALL, THIRTEEN_ROWS, product_of, turned_often

FORMS = {
    "square\nlisted 1\nrow 0": ("listed", ((0,),)),
    "square\nlisted 2\nrow 0 1\nrow 1 0": ("listed", ((0, 1), (1, 0))),
    "square\nsum 1 1 1": ("sum", 1, 1, 1),
    f"square\nsum {10 ** 30} 3 {10 ** 30 - 1}": ("sum", 10 ** 30, 3, 10 ** 30 - 1),
    "square\nfield 97 7 80798284478112": ("field", 97, 7, 97 ** 7 - 1),
    "square\nproduct\nsum 3 1 2\nfield 2 2 3":
        ("product", ("sum", 3, 1, 2), ("field", 2, 2, 3)),
    "square\nturned 2 0 1\nsum 3 1 1": ("turned", ("sum", 3, 1, 1), (2, 0, 1)),
    "square\nproduct\nproduct\nlisted 1\nrow 0\nsum 2 1 1\nturned 0 2 1\nlisted 2\nrow 1 0\nrow 0 1":
        ("product", ("product", ("listed", ((0,),)), ("sum", 2, 1, 1)),
         ("turned", ("listed", ((1, 0), (0, 1))), (0, 2, 1))),
    "square\nproduct\nsum 2 1 1\nproduct\nfield 5 1 4\nlisted 1\nrow 0":
        ("product", ("sum", 2, 1, 1), ("product", ("field", 5, 1, 4), ("listed", ((0,),)))),
    "square\nturned 0 1 2\nturned 1 2 0\nproduct\nlisted 1\nrow 0\nlisted 1\nrow 0":
        ("turned", ("turned", ("product", ("listed", ((0,),)), ("listed", ((0,),))), (1, 2, 0)),
         (0, 1, 2)),
}

# Each text with the number of the first line that cannot stand where it stands.
FAULTS = [
    ("", 1), (" ", 1), ("\n", 1), ("Square", 1), ("SQUARE\nsum 3 1 1", 1), (" square\nsum 3 1 1", 1),
    ("square \nsum 3 1 1", 1), ("squares\nsum 3 1 1", 1), ("sum 3 1 1", 1), ("\nsquare\nsum 3 1 1", 1),
    ("square square\nsum 3 1 1", 1), ("square 3\nsum 3 1 1", 1), ("square\r\nsum 3 1 1", 1),
    ("square\tx\nsum 3 1 1", 1),
    ("square", 2), ("square\n", 2), ("square\n\nsum 3 1 1", 2), ("square\nsquare", 2),
    ("square\nsum 3 1 1\n", 3), ("square\nsum 3 1 1\n\n", 3), ("square\nsum 3 1 1\n ", 3),
    ("square\nsum 3 1", 2), ("square\nsum 3", 2), ("square\nsum", 2), ("square\nsum 3 1 1 1", 2),
    ("square\n sum 3 1 1", 2), ("square\nsum 3 1 1 ", 2), ("square\nsum  3 1 1", 2),
    ("square\nsum 3  1 1", 2), ("square\nsum\t3 1 1", 2), ("square\nsum 3 1 1\r", 2),
    ("square\nSum 3 1 1", 2), ("square\nsum 3 1 x", 2), ("square\nsum 3 1 1.", 2),
    ("square\nsum 03 1 1", 2), ("square\nsum 3 00 1", 2), ("square\nsum 3 +1 1", 2),
    ("square\nsum 3 -1 1", 2), ("square\nsum -3 1 1", 2), ("square\nsum 3 1 1_0", 2),
    ("square\nsum 3 1 \u0661", 2), ("square\nsum 3 1 \u00b2", 2), ("square\nsum 3 1 1\x0b", 2),
    ("square\nsum 3 1 1" + "0" * 31, 2), ("square\nsum " + "9" * 32 + " 1 1", 2),
    ("square\nsum 3 1 " + "0" * 31, 2), ("square\nsums 3 1 1", 2), ("square\nother 3 1 1", 2),
    ("square\nend", 2),
    ("square\nfield 2 2", 2), ("square\nfield 2 2 1 1", 2), ("square\nFIELD 2 2 1", 2),
    ("square\nproduct 2\nsum 3 1 1\nsum 3 1 1", 2), ("square\nproduct ", 2),
    ("square\nturned 0 1\nsum 3 1 1", 2), ("square\nturned\nsum 3 1 1", 2),
    ("square\nturned 0 1 2 0\nsum 3 1 1", 2), ("square\nlisted\nrow 0", 2),
    ("square\nlisted 1 1\nrow 0", 2), ("square\nlisted x\nrow 0", 2), ("square\nlisted 01\nrow 0", 2),
    ("square\nrow 0", 2), ("square\nrow", 2),
    ("square\nlisted 1\nrow", 3), ("square\nlisted 1\nrow ", 3), ("square\nlisted 1\n row 0", 3),
    ("square\nlisted 1\nrow  0", 3), ("square\nlisted 1\nrow 0 ", 3), ("square\nlisted 1\nrow 00", 3),
    ("square\nlisted 1\nRow 0", 3), ("square\nlisted 1\nrow -1", 3), ("square\nlisted 1\nrows 0", 3),
    ("square\nlisted 1\nrow x", 3), ("square\nlisted 1\nrow 0\nrow", 4), ("square\nlisted 1\n0", 3),
    ("square\nlisted 1\n\nrow 0", 3), ("square\nlisted 1\nrow 0\n", 4),
    # A part that is missing.
    ("square\nproduct", 3), ("square\nturned 0 1 2", 3), ("square\nproduct\nsum 3 1 1", 4),
    ("square\nproduct\nlisted 1\nrow 0", 5), ("square\nproduct\nlisted 1", 4),
    ("square\nproduct\nproduct\nsum 3 1 1\nsum 3 1 1", 6), ("square\nturned 0 1 2\nproduct", 4),
    # A part too many.
    ("square\nsum 3 1 1\nsum 3 1 1", 3), ("square\nlisted 1\nrow 0\nlisted 1\nrow 0", 4),
    ("square\nturned 0 1 2\nsum 3 1 1\nfield 2 2 1", 4), ("square\nsum 3 1 1\nproduct", 3),
    ("square\nproduct\nsum 3 1 1\nsum 3 1 1\nturned 0 1 2\nsum 3 1 1", 5),
    ("square\nlisted 0\nsum 3 1 1", 3),
    # A row behind another kind.
    ("square\nsum 1 1 1\nrow 0", 3), ("square\nfield 2 1 1\nrow 0 1", 3), ("square\nproduct\nrow 0", 3),
    ("square\nturned 0 1 2\nrow 0", 3), ("square\nproduct\nlisted 1\nrow 0\nsum 1 1 1\nrow 0", 6),
    # Of two faults the first one.
    ("square\nlisted 1\nrow x\nrow y", 3), ("square\nsum 3 1\nrow 0", 2), ("squar\nsum 3 1", 1),
    ("square\nproduct\nsum 3 1 1\nsum 3 1 1\nsum 3 1 1\nother", 5),
    ("square\nproduct\nsum 4 2 2\nsum 3 1", 4),
]

NO_SQUARES = [
    "square\nlisted 0", "square\nlisted 1", "square\nlisted 2\nrow 0 1", "square\nlisted 1\nrow 1",
    "square\nlisted 1\nrow 0\nrow 0", "square\nlisted 0\nrow 0", "square\nlisted 2\nrow 0\nrow 1",
    "square\nlisted 2\nrow 0 1\nrow 0 1", "square\nlisted 2\nrow 0 1\nrow 1 0\nrow 0 1",
    "square\nlisted 3\nrow 0 1\nrow 1 0", "square\nlisted 1\nrow 0 1", "square\nlisted 2\nrow 0 1 2\nrow 1 0 2",
    "square\nlisted 13\n" + "\n".join("row " + " ".join(map(str, row)) for row in THIRTEEN_ROWS),
    "square\nlisted " + "9" * 31, "square\nlisted 1\nrow " + "9" * 31,
    "square\nsum 0 0 0", "square\nsum 4 2 1", "square\nsum 3 4 1", "square\nsum 1 0 1",
    f"square\nsum {10 ** 30 + 1} 1 1", "square\nsum " + "9" * 31 + " 1 1",
    "square\nfield 4 1 1", "square\nfield 2 13 1", "square\nfield 2 2 4", "square\nfield 2 2 0",
    "square\nfield 97 8 1", "square\nfield 0 0 0",
    "square\nturned 0 1 1\nsum 3 1 1", "square\nturned 0 1 3\nsum 3 1 1", "square\nturned 5 6 7\nsum 3 1 1",
    "square\nproduct\nlisted 0\nlisted 0", "square\nproduct\nsum 3 1 1\nlisted 2\nrow 0 1",
    "square\nproduct\nlisted 2\nrow 0 1\nlisted 1\nrow 0",
    f"square\nproduct\nsum {10 ** 15} 1 1\nsum {10 ** 15 + 1} 1 1",
]


class FormatTest(unittest.TestCase):
    def test_examples(self):
        self.assertEqual(format_square(("turned", ("listed", [[0, 1], [1, 0]]), (1, 0, 2))),
                         "square\nturned 1 0 2\nlisted 2\nrow 0 1\nrow 1 0")
        self.assertEqual(parse_square("square\nproduct\nsum 3 1 1\nfield 2 2 1"),
                         ("product", ("sum", 3, 1, 1), ("field", 2, 2, 1)))
        with self.assertRaises(InvalidNotation):
            parse_square("square\nproduct\nsum 3 1 1")
        with self.assertRaises(InvalidSquare):
            parse_square("square\nlisted 2\nrow 0 1")

    def test_forms(self):
        for text, tree in FORMS.items():
            self.assertEqual(format_square(tree), text)
            self.assertEqual(parse_square(text), tree)

    def test_there_and_back(self):
        for tree in SMALL + GREAT + [turned_often(("sum", 3, 1, 1), 11), product_of(6)]:
            before = copy.deepcopy(tree)
            text = format_square(tree)
            self.assertEqual(tree, before)
            self.assertEqual(parse_square(text), checked(tree))
            self.assertEqual(format_square(parse_square(text)), text)
            self.assertFalse(text.endswith("\n"))

    def test_format_refuses_what_is_no_tree(self):
        for tree in NO_TREES:
            with self.assertRaises(InvalidSquare):
                format_square(tree)


class ParseTest(unittest.TestCase):
    def test_lines_of_faults(self):
        for text, line in FAULTS:
            with self.assertRaises(InvalidNotation, msg=repr(text)) as caught:
                parse_square(text)
            self.assertEqual(caught.exception.line, line, repr(text))

    def test_right_form_but_no_square(self):
        for text in NO_SQUARES:
            with self.assertRaises(InvalidSquare, msg=repr(text)):
                parse_square(text)

    def test_integers_of_31_digits(self):
        # The order is too great, but that is no question of the form.
        with self.assertRaises(InvalidSquare):
            parse_square("square\nsum " + "9" * 31 + " 1 1")
        text = f"square\nsum {10 ** 30} {10 ** 30 - 1} 1"
        self.assertEqual(parse_square(text), ("sum", 10 ** 30, 10 ** 30 - 1, 1))

    def test_twelve_parts_and_thirteen(self):
        leaf = "\nsum 3 1 1"
        self.assertEqual(parse_square("square" + "\nturned 0 1 2" * 11 + leaf),
                         turned_often(("sum", 3, 1, 1), 11))
        with self.assertRaises(InvalidSquare):
            parse_square("square" + "\nturned 0 1 2" * 12 + leaf)
        with self.assertRaises(InvalidSquare):
            parse_square("square" + "\nproduct" * 6 + leaf * 7)

    def test_thousands_of_parts(self):
        leaf = "\nsum 3 1 1"
        for count in (1000, 30000):
            with self.assertRaises(InvalidSquare):
                parse_square("square" + "\nturned 0 1 2" * count + leaf)
            with self.assertRaises(InvalidSquare):
                parse_square("square" + "\nproduct" * count + leaf * (count + 1))
            with self.assertRaises(InvalidSquare):
                parse_square("square" + ("\nproduct" + leaf) * count + leaf)
            with self.assertRaises(InvalidSquare):
                parse_square("square\nlisted 1" + "\nrow 0" * count)
            for text, line in (("square" + "\nturned 0 1 2" * count, count + 2),
                               ("square" + "\nproduct" * count + leaf * count, 2 * count + 2),
                               ("square" + "\nproduct" * count + leaf * (count + 2), 2 * count + 3)):
                with self.assertRaises(InvalidNotation) as caught:
                    parse_square(text)
                self.assertEqual(caught.exception.line, line)


if __name__ == "__main__":
    unittest.main()
