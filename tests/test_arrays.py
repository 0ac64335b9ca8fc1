"""Arrays: points 92, 93 and 102."""

import copy
import random
import unittest
from itertools import combinations, product

from matedsquares import arrays as module
from matedsquares.arrays import array_fault, array_of, squares_of
from matedsquares.errors import InvalidQuestion, InvalidSquare
from matedsquares.squares import table
from tests import naive, naive_codes
from tests.cases import Case
from tests.test_judged import FAMILIES
from tests.test_squares import NO_LISTED

ORDERS = (0, -1, 13, 14, 100, 10 ** 30)
TWO_COLUMNS = [[(r, c) for r in range(n) for c in range(n)] for n in (1, 2, 3, 12)]
# What is no family of squares, each with the error that comes ahead of all others.
NO_FAMILIES = [
    ([], InvalidSquare), ((), InvalidSquare), ([((0,),), ((0, 1), (1, 0))], InvalidSquare),
    ([((0, 1), (1, 0)), ((0, 1), (1, 0)), ((0,),)], InvalidSquare),
    ([((0, 1), (1, 0)), ((0, 1), (1, 0))], InvalidQuestion), ([((0, 1), (1, 0)), ((1, 0), (0, 1))], InvalidQuestion),
    ([FAMILIES[4][0], FAMILIES[4][1], FAMILIES[4][0]], InvalidQuestion),
    ([table(("sum", 5, 1, 1)), table(("sum", 5, 1, 2)), table(("sum", 5, 2, 4))], InvalidQuestion),
    ([table(("sum", 12, 1, 1)), table(("sum", 12, 1, 5))], InvalidQuestion),
] + [([rows], InvalidSquare) for rows in NO_LISTED] + \
    [([((0, 1), (1, 0)), ((0, 1), (1, 0)), rows], InvalidSquare) for rows in NO_LISTED[::4]]


class ArraysTest(Case):
    def compared(self, n, rows):
        """Compare what is told of rows with a slow and plain way."""
        right = naive_codes.array_fault(rows)
        for form in (list(rows), tuple(rows), [list(row) for row in rows], tuple(list(row) for row in rows)):
            before = copy.deepcopy(form)
            self.assertEqual(array_fault(n, form), right)
            if right is None:
                squares_of(n, form)
            else:
                self.fault(InvalidQuestion, squares_of, n, form)
            self.assertEqual(form, before)
        return right

    def test_examples(self):
        self.assertEqual(array_of([[(0, 1), (1, 0)]]), [(0, 0, 0), (0, 1, 1), (1, 0, 1), (1, 1, 0)])
        self.assertEqual(squares_of(2, [(1, 0, 1), (0, 0, 0), (1, 1, 0), (0, 1, 1)]), [((0, 1), (1, 0))])

    def test_there_and_back(self):
        rng = random.Random(93)
        for squares in FAMILIES:
            n = len(squares[0])
            for form in (squares, tuple(squares), [[list(row) for row in rows] for rows in squares]):
                before = copy.deepcopy(form)
                rows = array_of(form)
                self.assertEqual(form, before)
                self.assertEqual(rows, naive_codes.array(squares))
                self.assertTrue(isinstance(rows, list) and all(isinstance(row, tuple) for row in rows))
            self.assertIsNone(self.compared(n, rows))
            self.assertEqual(squares_of(n, rows), list(squares))
            self.assertIsInstance(squares_of(n, tuple(rows)), list)
            for own in squares_of(n, [list(row) for row in rows]):
                self.assertTrue(isinstance(own, tuple) and all(isinstance(row, tuple) for row in own))
            for _ in range(3):
                mixed = rng.sample(rows, len(rows))
                self.assertEqual(squares_of(n, mixed), list(squares))
                # Columns in any order are an array, too, of other squares.
                places = rng.sample(range(len(rows[0])), len(rows[0]))
                turned = [tuple(row[place] for place in places) for row in mixed]
                self.assertIsNone(self.compared(n, turned))
                self.assertEqual(sorted(array_of(squares_of(n, turned))), sorted(turned))

    def test_two_columns(self):
        for rows in TWO_COLUMNS:
            n = rows[-1][0] + 1
            for own in (rows, rows[::-1], [row[::-1] for row in rows]):
                self.assertIsNone(array_fault(n, own))
                self.assertEqual(squares_of(n, own), [])
            self.assertEqual(array_of([table(("sum", n, 1, 1))])[n - 1][:2], (0, n - 1))

    def test_order_one(self):
        for width in range(2, 20):
            self.assertIsNone(array_fault(1, [(0,) * width]))
            self.assertEqual(squares_of(1, [[0] * width]), [((0,),)] * (width - 2))
        self.assertEqual(array_of([((0,),)] * 5), [(0,) * 7])

    def test_faults_by_hand(self):
        self.assertEqual(array_fault(2, [(0, 0), (0, 1), (1, 0), (0, 1)]), (0, 1, 1, 3))
        self.assertEqual(array_fault(2, [(0, 0), (0, 0), (0, 0), (0, 0)]), (0, 1, 0, 1))
        self.assertEqual(array_fault(2, [(0, 0, 0), (0, 1, 0), (1, 0, 1), (1, 1, 1)]), (0, 2, 0, 1))
        self.assertEqual(array_fault(2, [(0, 0, 0), (0, 1, 1), (1, 0, 0), (1, 1, 1)]), (1, 2, 0, 2))
        # The first row whose pair stood ahead, not the first pair that stands again.
        self.assertEqual(array_fault(2, [(0, 0), (1, 1), (1, 1), (0, 0)]), (0, 1, 1, 2))
        # Of several pairs of columns the one with the least first column.
        self.assertEqual(array_fault(2, [(0, 0, 0, 0), (0, 1, 1, 0), (1, 0, 0, 1), (1, 1, 1, 1)]), (0, 3, 0, 1))

    def test_one_sign_changed(self):
        rng = random.Random(92)
        for squares in FAMILIES[1:]:
            n = len(squares[0])
            rows = array_of(squares)
            if n == 1:
                continue
            for _ in range(6):
                wrong = [list(row) for row in rng.sample(rows, len(rows))]
                row = rng.choice(wrong)
                place = rng.randrange(len(row))
                row[place] = (row[place] + rng.randrange(1, n)) % n
                self.assertIsNotNone(self.compared(n, wrong))

    def test_rows_exchanged_doubled_left_out(self):
        rng = random.Random(94)
        for squares in FAMILIES[2:]:
            n = len(squares[0])
            rows = array_of(squares)
            for _ in range(4):
                one, other = rng.sample(range(len(rows)), 2)
                mixed = list(rows)
                mixed[one], mixed[other] = mixed[other], mixed[one]
                self.assertIsNone(self.compared(n, mixed))
                mixed[one] = mixed[other]
                self.assertIsNotNone(self.compared(n, mixed))
                for function in (array_fault, squares_of):
                    self.fault(InvalidQuestion, function, n, rows[:one] + rows[one + 1:])
                    self.fault(InvalidQuestion, function, n, rows + [rows[one]])

    def test_any_rows_of_small_orders(self):
        rng = random.Random(95)
        pairs = set()
        for _ in range(400):
            n, width = rng.choice([(2, 2), (2, 3), (2, 4), (3, 2), (3, 3), (3, 5)])
            rows = [tuple(rng.randrange(n) for _ in range(width)) for _ in range(n * n)]
            if rng.random() < 0.5:
                # The first two columns alone show no pair twice.
                rows = [pair + row[2:] for pair, row in zip(product(range(n), repeat=2), rows)]
            right = self.compared(n, rows)
            pairs.add(right and right[:2])
        self.assertLessEqual({None, (0, 1), (0, 2), (1, 2), (0, 3)}, pairs)
        for rows in product(product(range(2), repeat=2), repeat=4):
            self.compared(2, rows)

    def test_two_columns_that_are_one(self):
        for squares in FAMILIES[3:9]:
            n = len(squares[0])
            rows = array_of(squares)
            for one, other in list(combinations(range(len(rows[0])), 2))[:8]:
                wrong = [row[:other] + (row[one],) + row[other:] for row in rows]
                self.assertEqual(self.compared(n, wrong)[:2], (one, other))

    def test_other_orders(self):
        for order in ORDERS + (None, "2", (2,)):
            for rows in (TWO_COLUMNS[0], TWO_COLUMNS[1], [], [(r, c) for r in range(13) for c in range(13)],
                         [(r, c) for r in range(14) for c in range(14)]):
                for function in (array_fault, squares_of):
                    self.fault(InvalidQuestion, function, order, rows)

    def test_wrong_rows(self):
        good = array_of(FAMILIES[4])
        for rows in (
                [], (), good[:-1], good + good[:1], good + good, None, 5, "012", {0: 0},
                [()] * 9, [(0,)] * 9, [(row[0],) for row in good], [[]] * 9,
                good[:-1] + [good[-1][:-1]], good[:-1] + [good[-1] + (0,)], [good[0][:-1]] + good[1:],
                [good[0] + (0,)] + good[1:], good[:4] + [()] + good[5:], good[:4] + [(0, 1)] + good[5:],
                good[:-1] + [5], good[:-1] + [None], good[:-1] + ["0120"], [5] + good[1:],
                [(3,) + good[0][1:]] + good[1:], good[:-1] + [good[-1][:-1] + (-1,)], good[:-1] + [good[-1][:-1] + (3,)],
                good[:-1] + [good[-1][:-1] + ("1",)], good[:-1] + [good[-1][:-1] + (None,)],
                good[:-1] + [good[-1][:-1] + (10 ** 30,)]):
            for function in (array_fault, squares_of):
                self.fault(InvalidQuestion, function, 3, rows)
        for order in (1, 2, 4, 9, 12):
            for function in (array_fault, squares_of):
                self.fault(InvalidQuestion, function, order, good)

    def test_no_families(self):
        for squares, error in NO_FAMILIES:
            self.fault(error, array_of, squares)

    def test_squares_of_squares_that_are_no_mates(self):
        for squares, error in NO_FAMILIES:
            if error is InvalidQuestion:
                rows = naive_codes.array(squares)
                self.assertEqual(self.compared(len(squares[0]), rows), naive_codes.array_fault(rows))
                self.assertGreater(array_fault(len(squares[0]), rows)[0], 1)

    def test_new_lists(self):
        array_of(FAMILIES[4]).clear()
        rows = array_of(FAMILIES[4])
        self.assertEqual(len(rows), 9)
        squares_of(3, rows).clear()
        self.assertEqual(len(squares_of(3, rows)), 2)

    def test_arrays_of_small_families(self):
        for n in (2, 3):
            for rows in naive.all_squares(n):
                self.assertEqual(squares_of(n, array_of([rows])), [rows])

    def test_interface(self):
        for name in ("array_of", "array_fault", "squares_of"):
            self.assertEqual(getattr(module, name).__module__, "matedsquares.arrays")


if __name__ == "__main__":
    unittest.main()
