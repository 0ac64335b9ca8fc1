"""Mates of listed squares: points 33 to 36."""

import copy
import unittest
from itertools import permutations, product

from matedsquares import mates as module
from matedsquares.errors import InvalidQuestion, InvalidSquare, TooMany
from matedsquares.mates import are_mates, first_repeat, mate, mate_by, parts_of
from matedsquares.squares import table
from matedsquares.transversals import transversals
from tests import naive
from tests.test_squares import NO_LISTED, SKEW, THREE
from tests.test_transversals import SQUARES

WITH_MATE = [table(("sum", n, 1, 1)) for n in (1, 3, 5, 7, 9, 11)] + [
    THREE[1], ((0, 1, 2, 3), (1, 0, 3, 2), (2, 3, 0, 1), (3, 2, 1, 0)),
    table(("field", 2, 2, 2)), table(("field", 2, 3, 3)), table(("sum", 7, 2, 3)),
    table(("product", ("field", 2, 2, 1), ("sum", 3, 1, 1))),
    table(("product", ("sum", 2, 1, 1), ("sum", 6, 1, 1))),
]
WITHOUT_MATE = [table(("sum", n, 1, 1)) for n in (2, 4, 6, 8, 10)] + [
    ((1, 0), (0, 1)), SKEW[1], SQUARES[-1],
    # One with transversals, but not through every cell.
    ((0, 1, 2, 3, 4), (1, 0, 3, 4, 2), (2, 3, 4, 0, 1), (3, 4, 1, 2, 0), (4, 2, 0, 1, 3)),
]
MATES = [(table(("sum", n, 1, a)), table(("sum", n, 1, b)))
         for n, a, b in ((3, 1, 2), (5, 1, 2), (5, 2, 4), (7, 1, 6), (9, 1, 2), (11, 3, 7))] + [
    (table(("field", p, k, a)), table(("field", p, k, b)))
    for p, k, a, b in ((2, 2, 1, 2), (2, 2, 3, 1), (2, 3, 5, 7), (3, 2, 1, 8))] + [(((0,),), ((0,),))]


def repeat_by_words(one, other):
    cells = [(r, c) for r in range(len(one)) for c in range(len(one))]
    for at, (r, c) in enumerate(cells):
        for before, column in cells[:at]:
            if (one[r][c], other[r][c]) == (one[before][column], other[before][column]):
                return before, column, r, c
    return None


class FirstRepeatTest(unittest.TestCase):
    def test_mates(self):
        for one, other in MATES:
            self.assertIs(are_mates(one, other), True)
            self.assertIsNone(first_repeat(one, other))
            self.assertIs(are_mates(other, [list(row) for row in one]), True)

    def test_small_ones_wholly(self):
        for n in (1, 2, 3):
            for one, other in product(naive.all_squares(n), repeat=2):
                right = repeat_by_words(one, other)
                self.assertEqual(first_repeat(one, other), right)
                self.assertIs(are_mates(one, other), right is None)

    def test_order_four(self):
        found = naive.all_squares(4)
        for one, other in product(found[::37], found[::5]):
            right = repeat_by_words(one, other)
            self.assertEqual(first_repeat(one, other), right)
            self.assertIs(are_mates(one, other), right is None)

    def test_late_repeat(self):
        one, other = MATES[4]
        rows = [list(row) for row in other]
        rows[7], rows[8] = rows[8], rows[7]
        self.assertEqual(first_repeat(one, rows), repeat_by_words(one, rows))
        self.assertIs(are_mates(one, rows), False)
        self.assertEqual(first_repeat([[0, 1], [1, 0]], [[0, 1], [1, 0]]), (0, 1, 1, 0))

    def test_no_squares_and_unlike_orders(self):
        good = table(("sum", 3, 1, 1))
        for function in (first_repeat, are_mates, parts_of):
            for rows in NO_LISTED:
                for pair in ((rows, good), (good, rows), (rows, rows), (rows, [[0]])):
                    with self.assertRaises(InvalidSquare):
                        function(*pair)
            for n, m in ((1, 2), (2, 1), (3, 4), (12, 11), (5, 3)):
                with self.assertRaises(InvalidSquare):
                    function(table(("sum", n, 1, 1)), table(("sum", m, 1, 1)))


class PartsTest(unittest.TestCase):
    def test_example(self):
        square = [(0, 1, 2), (1, 2, 0), (2, 0, 1)]
        self.assertEqual(mate(square), ((0, 1, 2), (2, 0, 1), (1, 2, 0)))
        self.assertEqual(parts_of(square, mate(square)), [(0, 1, 2), (1, 2, 0), (2, 0, 1)])

    def test_there_and_back(self):
        for one, other in MATES:
            n = len(one)
            before = copy.deepcopy((one, other))
            parts = parts_of(one, other)
            self.assertEqual((one, other), before)
            self.assertIsInstance(parts, list)
            self.assertEqual(len(parts), n)
            for sign, columns in enumerate(parts):
                self.assertIsInstance(columns, tuple)
                self.assertEqual([other[r][c] for r, c in enumerate(columns)], [sign] * n)
                self.assertEqual(sorted(one[r][c] for r, c in enumerate(columns)), list(range(n)))
            self.assertEqual(mate_by(one, parts), other)
            self.assertEqual(mate_by([list(row) for row in one], [list(own) for own in parts]), other)
            self.assertEqual(parts_of(other, one), parts_of(list(other), [list(row) for row in one]))

    def test_another_order_of_transversals(self):
        one, other = MATES[1]
        parts = parts_of(one, other)
        for names in permutations(range(5)):
            moved = [parts[name] for name in names]
            right = tuple(tuple(names.index(sign) for sign in row) for row in other)
            self.assertEqual(mate_by(one, moved), right)
            self.assertEqual(parts_of(one, right), moved)

    def test_no_mates(self):
        for one, other in ((table(("sum", 3, 1, 1)), table(("sum", 3, 2, 2))),
                           (table(("sum", 4, 1, 1)), table(("sum", 4, 1, 3))),
                           (((0, 1), (1, 0)), ((1, 0), (0, 1)))):
            with self.assertRaises(InvalidQuestion):
                parts_of(one, other)

    def test_wrong_lists(self):
        one, other = MATES[1]
        parts = parts_of(one, other)
        others = [columns for columns in transversals(one) if columns not in parts]
        cyclic = [tuple((r + c) % 5 for r in range(5)) for c in range(5)]
        for wrong in (
                [], parts[:4], parts[:-2], parts + parts[:1], parts + parts, parts[:4] + parts[:1],
                parts[1:] + parts[1:2], [parts[0]] * 5, parts[:4] + others[:1], others[:1] + parts[1:],
                parts[:4] + [()], parts[:4] + [parts[4][:4]], parts[:4] + [parts[4] + (0,)],
                parts[:4] + [(0, 1, 2, 3, 5)], parts[:4] + [(0, 1, 2, 3, -1)],
                parts[:4] + [(0, 0, 0, 0, 0)], [(0, 1, 2, 3, 4)[::-1]] + parts[1:], parts[:4] + [5],
                parts[:4] + [None], [tuple(reversed(columns)) for columns in cyclic]):
            with self.assertRaises(InvalidQuestion, msg=str(wrong)):
                mate_by(one, wrong)

    def test_no_square_comes_first(self):
        for rows in NO_LISTED:
            for parts in ([], [(0,)], [(0, 1, 2)] * 3):
                with self.assertRaises(InvalidSquare):
                    mate_by(rows, parts)
            with self.assertRaises(InvalidSquare):
                mate(rows)
            with self.assertRaises(InvalidSquare):
                mate(rows, limit=0)

    def test_order_one(self):
        self.assertEqual(mate_by([[0]], [(0,)]), ((0,),))
        self.assertEqual(parts_of([[0]], [[0]]), [(0,)])
        self.assertEqual(mate([[0]]), ((0,),))


class MateTest(unittest.TestCase):
    def refused(self, rows, limit):
        with self.assertRaises(TooMany) as caught:
            mate(rows, limit=limit)
        self.assertEqual(caught.exception.limit, limit)

    def test_with_and_without(self):
        for rows in WITH_MATE + WITHOUT_MATE + SQUARES:
            before = [list(row) for row in rows]
            found = mate(before)
            right, _ = naive.first_mate(rows)
            self.assertEqual(found, right)
            self.assertEqual(before, [list(row) for row in rows])
            if found is not None:
                self.assertIs(are_mates(rows, found), True)
                self.assertEqual(found[0], tuple(range(len(rows))))
                self.assertTrue(all(isinstance(row, tuple) for row in found))
        self.assertTrue(all(mate(rows) is not None for rows in WITH_MATE))
        self.assertTrue(all(mate(rows) is None for rows in WITHOUT_MATE))

    def test_all_squares_of_order_four(self):
        found = naive.all_squares(4)
        count = sum(mate(rows) is not None for rows in found)
        # The squares of the group of the field of 4 elements, with names changed, have mates.
        self.assertEqual((len(found), count), (576, 144))

    def test_limits_just_met_and_just_exceeded(self):
        for rows in WITH_MATE + WITHOUT_MATE + SQUARES:
            right, tried = naive.first_mate(rows)
            self.assertEqual(mate(rows, limit=tried), right)
            self.assertEqual(mate(rows, limit=tried + 1), right)
            for limit in (tried - 1, tried // 2, 0):
                self.refused(rows, limit)

    def test_limits_by_hand(self):
        # The cell of the first row alone is tried, and nothing fits below it.
        self.assertIsNone(mate([[0, 1], [1, 0]], limit=1))
        self.refused([[0, 1], [1, 0]], 0)
        self.assertEqual(mate([[0]], limit=1), ((0,),))
        self.refused([[0]], 0)
        # Each of the nine cells is tried once.
        self.assertEqual(mate(table(("sum", 3, 1, 1)), limit=9), table(("sum", 3, 2, 1)))
        self.refused(table(("sum", 3, 1, 1)), 8)

    def test_limit_of_200000_where_none_is_told(self):
        with self.assertRaises(TooMany) as caught:
            mate(table(("sum", 12, 1, 1)))
        self.assertEqual(caught.exception.limit, 200000)

    def test_interface(self):
        for name in ("first_repeat", "are_mates", "mate", "mate_by", "parts_of"):
            self.assertEqual(getattr(module, name).__module__, "matedsquares.mates")
        with self.assertRaises(TypeError):
            mate(((0,),), 5)


if __name__ == "__main__":
    unittest.main()
