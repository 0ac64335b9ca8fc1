"""Families of listed squares: point 42."""

import copy
import unittest
from itertools import combinations, product

from matedsquares import judged as module
from matedsquares.errors import InvalidSquare
from matedsquares.judged import family_fault, is_family
from matedsquares.squares import table
from tests import naive
from tests.test_mates import repeat_by_words
from tests.test_squares import NO_LISTED

FAMILIES = [[((0,),)], [((0,),)] * 4, [((1, 0), (0, 1))], [table(("sum", 6, 1, 1))]] + [
    [table(("sum", n, 1, a)) for a in range(1, n)] for n in (3, 5, 7, 11)] + [
    [table(("field", p, k, a)) for a in range(1, p ** k)] for p, k in ((2, 2), (2, 3), (3, 2))] + [
    [table(("product", ("field", 2, 2, a), ("field", 3, 1, a))) for a in (1, 2)]]


def fault_by_words(squares):
    for one in range(1, len(squares) + 1):
        for other in range(one + 1, len(squares) + 1):
            cells = repeat_by_words(squares[one - 1], squares[other - 1])
            if cells:
                return (one, other) + cells
    return None


class JudgedTest(unittest.TestCase):
    def test_families(self):
        for squares in FAMILIES:
            for form in (squares, tuple(squares), [[list(row) for row in rows] for rows in squares],
                         tuple(tuple(list(row) for row in rows) for rows in squares)):
                before = copy.deepcopy(form)
                self.assertIsNone(family_fault(form))
                self.assertIs(is_family(form), True)
                self.assertEqual(form, before)

    def compared(self, squares):
        right = fault_by_words(squares)
        self.assertEqual(family_fault(squares), right)
        self.assertEqual(family_fault(tuple([list(row) for row in rows] for rows in squares)), right)
        self.assertIs(is_family(squares), right is None)

    def test_two_alike(self):
        for squares in FAMILIES:
            for one, other in combinations(range(len(squares) + 1), 2):
                doubled = squares[:one] + squares[other - 1:other] + squares[one:]
                self.compared(doubled)
                if len(squares[0]) > 1:
                    self.assertIs(is_family(doubled), False)

    def test_faults_by_hand(self):
        rows = ((0, 1), (1, 0))
        self.assertEqual(family_fault([rows, rows]), (1, 2, 0, 1, 1, 0))
        self.assertEqual(family_fault([rows, rows[::-1]]), (1, 2, 0, 1, 1, 0))
        one, other = FAMILIES[4]
        self.assertEqual(family_fault([one, other, other]), (2, 3, 0, 2, 1, 0))
        # The pair of 1 and 3 comes ahead of that of 2 and 4, that of 1 and 4 ahead of 2 and 3.
        self.assertEqual(family_fault([one, other, one, other])[:2], (1, 3))
        self.assertEqual(family_fault([one, other, other, one])[:2], (1, 4))

    def test_several_pairs(self):
        squares = naive.all_squares(3)
        for chosen in product(squares[::3], squares[::2], squares[1::3]):
            self.compared(list(chosen))
        four = naive.all_squares(4)
        for at in range(0, 570, 19):
            self.compared([four[at], four[(7 * at + 5) % 576], four[(13 * at + 1) % 576]])
        fields = FAMILIES[8]
        for at in range(len(fields)):
            self.compared(fields[:at] + [fields[at][1:] + fields[at][:1]] + fields[at + 1:])

    def test_no_squares(self):
        good = table(("sum", 3, 1, 1))
        for rows in NO_LISTED:
            for squares in ([rows], [good, rows], [rows, good], [good, rows, good], [rows, rows],
                            (good, rows), [((0,),), rows], [good, good, rows]):
                with self.assertRaises(InvalidSquare):
                    family_fault(squares)
                with self.assertRaises(InvalidSquare):
                    is_family(squares)

    def test_no_lists(self):
        for squares in (None, 5, "0", {}):
            with self.assertRaises(InvalidSquare):
                family_fault(squares)

    def test_none_and_unlike_orders(self):
        for n, m in ((1, 2), (2, 3), (3, 5), (12, 11), (4, 3)):
            one, other = table(("sum", n, 1, 1)), table(("sum", m, 1, 1))
            for squares in ([], (), [one, other], [other, one], (one, one, other), [other, one, one]):
                with self.assertRaises(InvalidSquare):
                    family_fault(squares)
                with self.assertRaises(InvalidSquare):
                    is_family(squares)

    def test_interface(self):
        for name in ("family_fault", "is_family"):
            self.assertEqual(getattr(module, name).__module__, "matedsquares.judged")


if __name__ == "__main__":
    unittest.main()
