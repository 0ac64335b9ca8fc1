"""Transversals of listed squares: points 29 to 32."""

import copy
import unittest
from itertools import product

from matedsquares import transversals as module
from matedsquares.errors import InvalidQuestion, InvalidSquare, TooMany
from matedsquares.squares import table
from matedsquares.transversals import (
    first_transversal, is_transversal, kept_rows, through, transversal_count, transversals,
)
from tests import naive
from tests.test_squares import NO_LISTED, SKEW, THREE

# Cyclic squares of even order have no transversal.
WITHOUT = [table(("sum", n, 1, 1)) for n in (2, 4, 6, 8)] + [((1, 0), (0, 1))]
SQUARES = [table(("sum", n, 1, 1)) for n in range(1, 9)] + [
    THREE[1], SKEW[1], ((1, 0), (0, 1)), table(("field", 2, 2, 3)), table(("field", 2, 3, 5)),
    table(("sum", 5, 2, 3)), table(("sum", 7, 3, 1)), table(("sum", 8, 3, 5)),
    table(("turned", ("product", ("listed", [[1, 0], [0, 1]]), THREE), (2, 0, 1))),
    ((0, 1, 2, 3, 4, 5), (1, 0, 3, 2, 5, 4), (2, 4, 0, 5, 1, 3), (3, 5, 1, 4, 0, 2),
     (4, 2, 5, 0, 3, 1), (5, 3, 4, 1, 2, 0)),
]
NO_ROWS = NO_LISTED
CALLS = (
    kept_rows, transversals, transversal_count, first_transversal,
    lambda rows: is_transversal(rows, (0,)), lambda rows: is_transversal(rows, []),
    lambda rows: through(rows, 0, 0), lambda rows: through(rows, -1, 99),
    lambda rows: transversals(rows, limit=0), lambda rows: transversal_count(rows, limit=0),
    lambda rows: first_transversal(rows, limit=0), lambda rows: through(rows, 0, 0, limit=0),
)


class RowsTest(unittest.TestCase):
    def test_orders_one_to_twelve(self):
        for n in range(1, 13):
            right = table(("sum", n, 1, n - 1 or 1))
            for rows in (right, [list(row) for row in right], [tuple(row) for row in right],
                         tuple(list(row) for row in right)):
                before = copy.deepcopy(rows)
                self.assertEqual(kept_rows(rows), right)
                self.assertEqual(rows, before)
                self.assertIsInstance(kept_rows(rows), tuple)
                self.assertTrue(all(isinstance(row, tuple) for row in kept_rows(rows)))

    def test_all_of_order_three(self):
        for signs in product(range(3), repeat=9):
            rows = [signs[:3], list(signs[3:6]), signs[6:]]
            if naive.is_square(rows):
                self.assertEqual(kept_rows(rows), (signs[:3], signs[3:6], signs[6:]))
            else:
                with self.assertRaises(InvalidSquare):
                    kept_rows(rows)

    def test_no_squares_are_refused_first_by_all(self):
        for rows in NO_ROWS:
            for call in CALLS:
                with self.assertRaises(InvalidSquare):
                    call(rows)

    def test_kept_rows_stay(self):
        rows = [[0, 1], [1, 0]]
        kept = kept_rows(rows)
        rows[0][0] = 1
        self.assertEqual(kept, ((0, 1), (1, 0)))


class IsTransversalTest(unittest.TestCase):
    def test_all_choices(self):
        for rows in SQUARES[:5] + [SKEW[1], THREE[1], ((1, 0), (0, 1))]:
            n = len(rows)
            right = set(naive.transversals(rows))
            for columns in product(range(-1, n + 1), repeat=n):
                self.assertIs(is_transversal(rows, columns), columns in right)
                self.assertIs(is_transversal(rows, list(columns)), columns in right)

    def test_other_lengths(self):
        rows = table(("sum", 3, 1, 1))
        self.assertIs(is_transversal(rows, (0, 1, 2)), True)
        for columns in ((), [], (0,), (0, 1), (0, 1, 2, 0), (0, 1, 2, 3), (0, 1, 2, 0, 1, 2)):
            self.assertIs(is_transversal(rows, columns), False)

    def test_integers_that_are_no_columns(self):
        rows = table(("sum", 3, 1, 1))
        for columns in ((0, 1, 3), (0, 1, -1), (-3, -2, -1), (10 ** 30, 1, 2), (1, 2, 3), (0, 1, 5)):
            self.assertIs(is_transversal(rows, columns), False)
        self.assertIs(is_transversal([[0]], [0]), True)
        for column in (-1, 1, 10 ** 20):
            self.assertIs(is_transversal([[0]], [column]), False)


class SearchTest(unittest.TestCase):
    def test_all_of_them_ascending(self):
        for rows in SQUARES:
            right = naive.transversals(rows)
            before = [list(row) for row in rows]
            found = transversals(before)
            self.assertEqual(found, right)
            self.assertEqual(before, [list(row) for row in rows])
            self.assertTrue(all(isinstance(columns, tuple) for columns in found))
            self.assertEqual(transversal_count(rows), len(right))
            self.assertEqual(first_transversal(rows), right[0] if right else None)

    def test_known_counts(self):
        counts = [transversal_count(table(("sum", n, 1, 1))) for n in range(1, 11)]
        self.assertEqual(counts, [1, 0, 3, 0, 15, 0, 133, 0, 2025, 0])
        self.assertEqual(transversal_count(table(("sum", 11, 1, 1)), limit=10 ** 6), 37851)
        self.assertEqual(transversal_count(table(("field", 2, 3, 1))), 384)
        self.assertEqual(transversal_count(table(("field", 3, 2, 1))), 2241)

    def test_without(self):
        for rows in WITHOUT:
            self.assertEqual(transversals(rows), [])
            self.assertEqual(transversal_count(rows), 0)
            self.assertIsNone(first_transversal(rows))
            self.assertEqual(through(rows, 0, 0), [])

    def test_through_every_cell(self):
        for rows in SQUARES:
            right = naive.transversals(rows)
            for r in range(len(rows)):
                for c in range(len(rows)):
                    self.assertEqual(through(rows, r, c),
                                     [columns for columns in right if columns[r] == c])

    def test_new_lists(self):
        rows = table(("sum", 3, 1, 1))
        transversals(rows).clear()
        self.assertEqual(len(transversals(rows)), 3)

    def test_all_squares_of_order_four(self):
        for rows in naive.all_squares(4)[::7]:
            self.assertEqual(transversals(rows), naive.transversals(rows))


class LimitTest(unittest.TestCase):
    def refused(self, function, limit, *arguments):
        with self.assertRaises(TooMany) as caught:
            function(*arguments, limit=limit)
        self.assertEqual(caught.exception.limit, limit)

    def test_just_met_and_just_exceeded(self):
        for rows in SQUARES:
            whole, first = naive.tries(rows)
            right = naive.transversals(rows)
            self.assertEqual(transversals(rows, limit=whole), right)
            self.assertEqual(transversal_count(rows, limit=whole), len(right))
            self.assertEqual(through(rows, 0, 0, limit=whole),
                             [columns for columns in right if columns[0] == 0])
            self.assertEqual(first_transversal(rows, limit=first), right[0] if right else None)
            for limit in (whole - 1, whole // 2, 0):
                self.refused(transversals, limit, rows)
                self.refused(transversal_count, limit, rows)
                self.refused(through, limit, rows, 0, 0)
                self.refused(through, limit, rows, len(rows) - 1, len(rows) - 1)
            for limit in (first - 1, first // 2, 0):
                self.refused(first_transversal, limit, rows)

    def test_counts_by_hand(self):
        # Row 0 has two cells that are tried, and behind each nothing fits.
        self.assertEqual(naive.tries(((0, 1), (1, 0))), (2, 2))
        self.assertEqual(transversals([[0, 1], [1, 0]], limit=2), [])
        self.refused(transversals, 1, [[0, 1], [1, 0]])
        self.assertEqual(transversals([[0]], limit=1), [(0,)])
        self.refused(first_transversal, 0, [[0]])
        # Three cells in each of three ways.
        self.assertEqual(naive.tries(table(("sum", 3, 1, 1))), (9, 3))

    def test_limit_of_200000_where_none_is_told(self):
        rows = table(("sum", 11, 1, 1))
        self.assertGreater(transversal_count(rows, limit=10 ** 6), 0)
        self.refused_by_default(transversals, rows)
        self.refused_by_default(transversal_count, rows)
        self.refused_by_default(through, rows, 0, 0)
        self.refused_by_default(first_transversal, table(("sum", 12, 1, 1)))

    def refused_by_default(self, function, *arguments):
        with self.assertRaises(TooMany) as caught:
            function(*arguments)
        self.assertEqual(caught.exception.limit, 200000)

    def test_no_cell_comes_ahead_of_too_many(self):
        rows = table(("sum", 5, 1, 1))
        for cell in ((-1, 0), (0, -1), (5, 0), (0, 5), (5, 5), (-1, 5), (10 ** 20, 0)):
            for limit in (0, 3, 200000):
                with self.assertRaises(InvalidQuestion):
                    through(rows, *cell, limit=limit)
        self.refused(through, 0, rows, 4, 4)

    def test_interface(self):
        for name in ("kept_rows", "is_transversal", "transversals", "transversal_count",
                     "first_transversal", "through"):
            self.assertEqual(getattr(module, name).__module__, "matedsquares.transversals")
        for function in (transversals, transversal_count, first_transversal):
            with self.assertRaises(TypeError):
                function(((0,),), 5)


if __name__ == "__main__":
    unittest.main()
