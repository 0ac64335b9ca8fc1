"""Subsquares and rings: points 57 to 59."""

import copy
import inspect
import random
import unittest
from itertools import combinations, permutations, product

from matedsquares import subsquares as module
from matedsquares.errors import InvalidQuestion, InvalidSquare, TooMany
from matedsquares.squares import listed, order, table
from matedsquares.subsquares import is_subsquare, rings, spanned, subsquares, switched, taken_out
from tests import naive
from tests import naive_subsquares as slow
from tests.test_squares import NO_TREES, SKEW, SMALL, THREE, TURNS

RNG = random.Random(40)


def mixed(n, tree=None):
    return ("listed", naive.switched_often(table(tree or ("sum", n, 1, 1)), RNG))


LISTED = [
    SKEW, THREE, ("listed", [[0]]), ("listed", [[1, 0], [0, 1]]), mixed(4), mixed(5), mixed(6),
    mixed(6), mixed(7), mixed(8), mixed(8, ("field", 2, 3, 1)), listed(("field", 2, 3, 5)),
    listed(("product", ("sum", 2, 1, 1), ("sum", 3, 1, 1))),
]
NINE_AND_MORE = [
    mixed(9), mixed(10), mixed(12), switched(("sum", 12, 1, 1), 0, 6, 1),
    switched(("product", ("field", 2, 2, 1), ("sum", 3, 1, 1)), 2, 5, 4),
    switched(switched(("product", SKEW, ("sum", 3, 1, 2)), 0, 3, 0), 1, 7, 2),
]
TURNED_SMALL = [("turned", tree, turn) for tree in LISTED[:4] + LISTED[6:7] for turn in TURNS[1:]]
TREES = SMALL + LISTED + NINE_AND_MORE + TURNED_SMALL + [
    ("product", LISTED[4], ("sum", 4, 1, 3)), ("product", ("sum", 6, 5, 1), LISTED[6]),
    ("turned", ("product", LISTED[6], LISTED[4]), (1, 2, 0)), ("product", NINE_AND_MORE[2], SKEW),
]

BIG = 10 ** 30
FIFTEEN = ("sum", 10 ** 15, 3, 7)
GREAT = [
    (("sum", BIG, 3, 7), [(5, 9), (5 + BIG // 20, 9)], 20),
    (("sum", BIG, 3, 7), [(5, 9), (5, 9 + BIG // 8), (5 + BIG // 10, 9 + BIG // 2)], 40),
    (("turned", ("sum", BIG, BIG - 1, 3 ** 60), (2, 0, 1)), [(7, 0), (7, BIG // 16)], 16),
    (("product", FIFTEEN, FIFTEEN), [(0, 0), (BIG // 5, 200000000000000)], 25),
    (("product", FIFTEEN, FIFTEEN), [(0, 0), (BIG // 5 + 200000000000000, 0)], 5),
    (("field", 17, 12, 98765432101), [(1, 2), (1, 3)], 17),
    (("field", 2, 12, 4095), [(1, 2), (1, 3), (900, 77), (5, 4)], None),
    (("field", 7, 12, 7 ** 12 - 1), [(8, 8), (9, 8)], 7),
    (("field", 97, 7, 97 ** 7 - 1), [(8, 10 ** 12), (8, 10 ** 12)], 1),
    (("turned", ("product", ("field", 3, 12, 100), ("field", 5, 12, 100)), (1, 2, 0)),
     [(1, 2), (1 + 5 ** 12, 2)], 3),
    (("turned", ("product", ("field", 3, 12, 100), ("field", 5, 12, 100)), (2, 1, 0)),
     [(1, 2), (1 + 5 ** 12, 3)], None),
    (("product", ("sum", 10 ** 28, 1, 1), LISTED[6]), [(0, 0), (1, 0)], None),
    (("product", LISTED[6], ("sum", 10 ** 28, 1, 3)), [(0, 0), (0, 10 ** 27)], 10),
    (("product", SKEW, ("product", ("sum", 10 ** 20, 3, 1), LISTED[8])), [(0, 0), (5, 3)], None),
    (("turned", ("product", SKEW, ("turned", ("product", ("sum", 10 ** 20, 3, 1), SKEW), (0, 2, 1))),
      (2, 1, 0)), [(4 * 10 ** 20, 0), (0, 3), (2 * 10 ** 20, 2 * 10 ** 20)], None),
]


def cells_in(size, count, seed):
    """Some cells of a square of this order, always the same."""
    return [((seed * 7 + at * (at + 3)) % size, (seed * 5 + at * 11 + 1) % size) for at in range(count)]


class SpannedTest(unittest.TestCase):
    def refused(self, tree, cells, limit):
        with self.assertRaises(TooMany) as caught:
            spanned(tree, cells, limit=limit)
        self.assertEqual(caught.exception.limit, limit)

    def test_example(self):
        self.assertEqual(spanned(("sum", 6, 1, 1), [(0, 0), (2, 0)]), ([0, 2, 4], [0, 2, 4], [0, 2, 4]))

    def compared(self, tree, cells, right):
        before = copy.deepcopy((tree, cells))
        found = spanned(tree, cells)
        self.assertEqual(found, right, (tree, cells))
        self.assertIsInstance(found, tuple)
        self.assertTrue(all(isinstance(parts, list) for parts in found))
        self.assertEqual((tree, cells), before)
        count = len(right[0])
        self.assertEqual(spanned(tree, cells, limit=count), right)
        for limit in {count - 1, count // 2, 0} - {-1, count}:
            self.refused(tree, cells, limit)

    def test_small_squares(self):
        for at, tree in enumerate(TREES):
            size = order(tree)
            self.compared(tree, [], ([], [], []))
            for count in range(1, 5):
                cells = cells_in(size, count, at)
                right = slow.span_in_small(tree, cells)
                self.compared(tree, cells, right)
                again = [list(cell) for cell in cells[::-1]] + cells
                self.assertEqual(spanned(tree, again), right)

    def test_each_two_cells_of_small_ones(self):
        for tree in LISTED[:7] + TURNED_SMALL[:4] + [("sum", 4, 1, 3), ("field", 2, 2, 3)]:
            size = order(tree)
            cells = list(product(range(size), repeat=2))
            for one, other in combinations(cells[:2 * size] + cells[-1:], 2):
                self.assertEqual(spanned(tree, [one, other]), slow.span_in_small(tree, [one, other]))

    def test_one_cell_and_one_cell_twice(self):
        for tree in TREES:
            _, cells = naive.cells_of(tree)
            for r, c, s in cells[::1 + len(cells) // 5]:
                self.assertEqual(spanned(tree, [(r, c)]), ([r], [c], [s]))
                self.assertEqual(spanned(tree, [(r, c), [r, c], (r, c)]), ([r], [c], [s]))
                self.refused(tree, [(r, c)], 0)

    def test_great_orders(self):
        for tree, cells, count in GREAT:
            right = slow.span(tree, cells)
            self.compared(tree, cells, right)
            if count is not None:
                self.assertEqual(len(right[0]), count)

    def test_many_rows_of_great_squares(self):
        for tree, cells, count in (
                (("sum", BIG, 1, 1), [(0, 0), (BIG // 200, 0)], 200),
                (("sum", BIG, 1, 1), [(0, 0), (BIG // 1000, 0)], 1000),
                (("turned", ("sum", BIG, 3, 7), (2, 1, 0)), [(0, 0), (0, BIG // 5000)], 5000),
                (("field", 13, 12, 13 ** 11), [(0, 0), (1, 0), (13, 0), (1, 7)], None),
                (("product", ("sum", 10 ** 24, 1, 1), SKEW), [(0, 0), (10 ** 22, 0)], 400)):
            rows, columns, signs = spanned(tree, cells, limit=10 ** 4)
            if count is not None:
                self.assertEqual(len(rows), count)
            self.assertEqual((len(columns), len(signs)), (len(rows), len(rows)))
            self.assertIs(is_subsquare(tree, rows, columns), True)
            self.assertEqual(spanned(tree, cells, limit=len(rows)), (rows, columns, signs))
            self.refused(tree, cells, len(rows) - 1)
            if len(rows) > 200:
                with self.assertRaises(TooMany) as caught:
                    spanned(tree, cells)
                self.assertEqual(caught.exception.limit, 200)
            else:
                self.assertEqual(spanned(tree, cells), (rows, columns, signs))

    def test_whole_squares(self):
        for tree in (("sum", 200, 1, 1), ("sum", 201, 1, 1), ("product", SKEW, ("sum", 49, 1, 1)),
                     ("product", LISTED[8], ("sum", 31, 1, 1)), ("field", 211, 1, 5)):
            size = order(tree)
            cells = [(0, 0), (1, 0), (0, 2), (size // 2, 5), (3, size - 1)]
            whole = (list(range(size)),) * 3
            self.assertEqual(spanned(tree, cells, limit=size), whole)
            self.refused(tree, cells, size - 1)

    def test_order_of_errors(self):
        for tree in NO_TREES:
            for cells in ([], [(0, 0)], [(-1, 0)]):
                with self.assertRaises(InvalidSquare):
                    spanned(tree, cells, limit=0)
                with self.assertRaises(InvalidSquare):
                    taken_out(tree, cells)
        for tree in (THREE, ("sum", 10, 3, 7), GREAT[0][0], GREAT[9][0]):
            size = order(tree)
            for wrong in (-1, -2, size, size + 1, 10 ** 31):
                for cells in ([(wrong, 0)], [(0, wrong)], [(0, 0), (1, 1), (0, wrong)],
                              [(wrong, wrong), (0, 0)], [(0, 0), [0, 1], [wrong, 0]]):
                    with self.assertRaises(InvalidQuestion):
                        spanned(tree, cells, limit=0)
                    with self.assertRaises(InvalidQuestion):
                        spanned(tree, cells)
                    with self.assertRaises(InvalidQuestion):
                        taken_out(tree, cells)

    def test_interface(self):
        for name in ("spanned", "is_subsquare", "taken_out", "subsquares", "rings", "switched"):
            self.assertEqual(getattr(module, name).__module__, "matedsquares.subsquares")
        with self.assertRaises(TypeError):
            spanned(THREE, [], 5)
        with self.assertRaises(TypeError):
            subsquares(THREE, 1, 5)
        self.assertEqual(inspect.signature(subsquares).parameters["limit"].default, 20000)


class IsSubsquareTest(unittest.TestCase):
    def test_all_rows_and_columns_of_small_ones(self):
        for tree in (SKEW, THREE, LISTED[4], LISTED[5], ("sum", 4, 1, 3), ("field", 2, 2, 3),
                     ("turned", LISTED[4], (1, 2, 0)), ("listed", [[0]])):
            size, rows = order(tree), naive.rows_of(tree)
            chosen = [some for count in range(size + 1) for some in combinations(range(size), count)]
            for some_rows, some_columns in product(chosen, chosen):
                right = slow.is_subsquare(rows, some_rows, some_columns)
                self.assertIs(is_subsquare(tree, list(some_rows), list(some_columns)), right)

    def test_whatever_order_and_several_times(self):
        tree = ("sum", 6, 1, 1)
        for some in permutations((0, 2, 4)):
            self.assertIs(is_subsquare(tree, list(some), [3, 5, 1]), True)
            self.assertIs(is_subsquare(tree, [*some, 0, 0, 2], [5, 5, 3, 1]), True)
            self.assertIs(is_subsquare(tree, [*some, 1], [1, 3, 5]), False)
            self.assertIs(is_subsquare(tree, [*some, 0], [1, 3, 2]), False)
        self.assertIs(is_subsquare(tree, [0, 0, 0], [5]), True)
        self.assertIs(is_subsquare(tree, [0, 0, 0], [5, 4, 4]), False)

    def test_empty_ones(self):
        for tree in TREES[::5] + [GREAT[0][0]]:
            self.assertIs(is_subsquare(tree, [], []), True)
            self.assertIs(is_subsquare(tree, [0], []), False)
            self.assertIs(is_subsquare(tree, [], [0]), False)
            self.assertIs(is_subsquare(tree, [0], [0]), True)

    def test_spanned_ones(self):
        for at, tree in enumerate(TREES):
            size, rows = order(tree), naive.rows_of(tree)
            for count in (1, 2, 3):
                some_rows, some_columns, _ = spanned(tree, cells_in(size, count, at + 3))
                self.assertIs(is_subsquare(tree, some_rows[::-1], some_columns), True)
                if 1 < len(some_rows) < size:
                    free = [c for c in range(size) if c not in some_columns]
                    for wrong in ([*some_columns[1:], free[0]], [*some_columns, free[-1]],
                                  some_columns[:-1], free[:len(some_rows)]):
                        right = slow.is_subsquare(rows, some_rows, wrong)
                        self.assertIs(is_subsquare(tree, some_rows, wrong), right)

    def test_great_orders(self):
        for tree, cells, _ in GREAT:
            rows, columns, _ = spanned(tree, cells)
            self.assertIs(is_subsquare(tree, rows, columns[::-1]), True)
            if len(rows) > 1:
                self.assertIs(is_subsquare(tree, rows[1:], columns[1:]), len(rows) == 2)
                self.assertIs(is_subsquare(tree, rows[1:], columns), False)
        self.assertIs(is_subsquare(("sum", BIG, 1, 1), [0, 1], [0, 1]), False)
        self.assertIs(is_subsquare(("sum", BIG, 1, 1), [0, BIG // 2], [3, 3 + BIG // 2]), True)

    def test_errors(self):
        for tree in NO_TREES:
            with self.assertRaises(InvalidSquare):
                is_subsquare(tree, [], [])
            with self.assertRaises(InvalidSquare):
                is_subsquare(tree, [-1], [0, 1])
        for tree in (THREE, ("sum", 10, 3, 7), GREAT[0][0]):
            for wrong in (-1, order(tree), 10 ** 31):
                for some_rows, some_columns in (([wrong], [0]), ([0], [wrong]), ([0, wrong], []),
                                                ([], [0, 1, wrong]), ([wrong], [wrong])):
                    with self.assertRaises(InvalidQuestion):
                        is_subsquare(tree, some_rows, some_columns)


class TakenOutTest(unittest.TestCase):
    def test_small_squares(self):
        for at, tree in enumerate(TREES):
            size = order(tree)
            for count in range(1, 4):
                cells = cells_in(size, count, at)
                rows, columns, signs = slow.span_in_small(tree, cells)
                if len(rows) > 12:
                    with self.assertRaises(InvalidQuestion):
                        taken_out(tree, cells)
                    continue
                own = naive.rows_of(tree)
                right = tuple(tuple(signs.index(own[r][c]) for c in columns) for r in rows)
                self.assertEqual(taken_out(tree, cells), ("listed", right))
                self.assertTrue(naive.is_square(right))

    def test_great_ones(self):
        for tree, cells, _ in GREAT:
            rows, columns, signs = slow.span(tree, cells)
            if len(rows) <= 12:
                right = tuple(tuple(signs.index(slow.third(tree, 2, (r, c, 0))) for c in columns)
                              for r in rows)
                self.assertEqual(taken_out(tree, cells), ("listed", right))
            else:
                with self.assertRaises(InvalidQuestion):
                    taken_out(tree, cells)

    def test_twelve_rows_and_more(self):
        tree = ("sum", 12 * 13 * 10 ** 20, 1, 1)
        step = 13 * 10 ** 20
        self.assertEqual(taken_out(tree, [(5, 0), (5 + step, 0)]), listed(("sum", 12, 1, 1)))
        with self.assertRaises(InvalidQuestion):
            taken_out(tree, [(5, 0), (5 + 12 * 10 ** 20, 0)])
        self.assertEqual(taken_out(("sum", 12, 5, 7), [(0, 0), (1, 0)]), listed(("sum", 12, 5, 7)))
        with self.assertRaises(InvalidQuestion):
            taken_out(("sum", 13, 1, 1), [(0, 0), (1, 0)])
        self.assertEqual(taken_out(("sum", 13, 1, 1), [(7, 8)]), ("listed", ((0,),)))

    def test_no_cells(self):
        for tree in (THREE, ("listed", [[0]]), GREAT[0][0]):
            with self.assertRaises(InvalidQuestion):
                taken_out(tree, [])


class SubsquaresTest(unittest.TestCase):
    def test_example(self):
        self.assertEqual(len(subsquares(("sum", 4, 1, 1), 2)), 4)

    def test_all_sizes_of_small_ones(self):
        for tree in [tree for tree in LISTED + TURNED_SMALL if order(tree) < 8] + [
                ("sum", 1, 1, 1), ("sum", 6, 5, 1), ("field", 2, 2, 3), ("field", 7, 1, 3),
                ("product", ("sum", 2, 1, 1), ("sum", 3, 1, 2)), ("turned", ("sum", 6, 1, 5), (2, 0, 1))]:
            rows, many = naive.rows_of(tree), 0
            for size in range(1, order(tree) + 1):
                right = slow.subsquares(rows, size)
                many += len(right)
                self.compared(tree, size, right, many)

    def compared(self, tree, size, right, many):
        found = subsquares(tree, size)
        self.assertEqual(found, right)
        self.assertEqual(found, sorted(found))
        self.assertTrue(all(isinstance(part, tuple) for pair in found for part in (pair, *pair)))
        self.assertEqual(subsquares(tree, size, limit=many), right)
        for limit in {many - 1, 0}:
            with self.assertRaises(TooMany) as caught:
                subsquares(tree, size, limit=limit)
            self.assertEqual(caught.exception.limit, limit)

    def test_all_sizes_of_order_eight(self):
        for tree in LISTED[9:12] + [("sum", 8, 3, 5), ("turned", ("field", 2, 3, 3), (1, 2, 0))]:
            rows, many = naive.rows_of(tree), 0
            for size in range(1, 9):
                right = slow.subsquares(rows, size)
                many += len(right)
                self.compared(tree, size, right, many)

    def test_some_sizes_of_greater_ones(self):
        for tree in NINE_AND_MORE + [("sum", 12, 5, 7), ("sum", 10, 3, 1), ("field", 3, 2, 5),
                                     ("product", THREE, LISTED[4]), ("field", 11, 1, 2)]:
            rows, many = naive.rows_of(tree), 0
            for size in range(1, 4):
                right = slow.subsquares(rows, size)
                many += len(right)
                self.compared(tree, size, right, many)
            self.assertEqual(subsquares(tree, len(rows)), [(tuple(range(len(rows))),) * 2])
            for size in range(len(rows) // 2 + 1, len(rows)):
                self.assertEqual(subsquares(tree, size), [])

    def test_counts_in_groups(self):
        # As many as there are subgroups of this size, times the square of their index.
        for tree, counts in (
                (("sum", 12, 5, 7), {1: 1, 2: 1, 3: 1, 4: 1, 5: 0, 6: 1, 12: 1}),
                (("product", ("field", 2, 2, 3), ("sum", 3, 1, 2)), {1: 1, 2: 3, 3: 1, 4: 1, 6: 3, 12: 1}),
                (("turned", ("product", ("sum", 3, 2, 1), ("field", 2, 2, 1)), (2, 1, 0)),
                 {1: 1, 2: 3, 3: 1, 4: 1, 6: 3, 12: 1}),
                (("field", 2, 3, 6), {1: 1, 2: 7, 4: 7, 8: 1}), (("field", 3, 2, 4), {1: 1, 3: 4, 9: 1}),
                (("sum", 10, 3, 7), {1: 1, 2: 1, 5: 1, 10: 1}), (("sum", 9, 2, 4), {1: 1, 3: 1, 9: 1})):
            for size, count in counts.items():
                self.assertEqual(len(subsquares(tree, size)), count * (order(tree) // size) ** 2)

    def test_all_of_them_are_subsquares(self):
        for tree in NINE_AND_MORE:
            for size in (4, 5, 6):
                for rows, columns in subsquares(tree, size):
                    self.assertIs(is_subsquare(tree, list(rows), list(columns)), True)

    def test_order_of_errors(self):
        for tree in NO_TREES:
            for size in (1, 0, 13):
                with self.assertRaises(InvalidSquare):
                    subsquares(tree, size, limit=0)
        for tree in (THREE, ("sum", 12, 1, 1), ("sum", 1, 1, 1)):
            for size in (0, -1, order(tree) + 1, 10 ** 30):
                with self.assertRaises(InvalidQuestion):
                    subsquares(tree, size, limit=0)
        for tree in (("sum", 13, 1, 1), GREAT[0][0], ("product", THREE, ("sum", 5, 1, 1))):
            for size in (1, 0, 2, 13):
                with self.assertRaises(InvalidQuestion):
                    subsquares(tree, size, limit=0)


class RingsTest(unittest.TestCase):
    def test_example(self):
        self.assertEqual(rings(("sum", 4, 1, 1), 0, 2), [[0, 2], [1, 3]])
        self.assertEqual(switched(("sum", 4, 1, 1), 0, 2, 1)[1],
                         ((0, 3, 2, 1), (1, 2, 3, 0), (2, 1, 0, 3), (3, 0, 1, 2)))

    def test_small_squares(self):
        for tree in TREES:
            rows = naive.rows_of(tree)
            for one, other in list(permutations(range(len(rows)), 2))[::1 if len(rows) < 9 else 17]:
                found = rings(tree, one, other)
                self.assertEqual(found, slow.rings(rows, one, other))
                self.assertEqual(sorted(sum(found, [])), list(range(len(rows))))
                self.assertTrue(all(isinstance(ring, list) for ring in found))

    def test_order_two_thousand(self):
        for tree, one, other in (
                (("sum", 2000, 3, 7), 0, 1999), (("sum", 2000, 1, 1), 5, 1005), (("field", 1999, 1, 7), 3, 4),
                (("product", ("field", 3, 5, 100), ("sum", 8, 1, 3)), 17, 1000),
                (("turned", ("product", SKEW, ("sum", 499, 5, 7)), (2, 0, 1)), 0, 998)):
            columns = range(order(tree))
            rows = {row: [slow.third(tree, 2, (row, c, 0)) for c in columns] for row in (one, other)}
            places = {sign: c for c, sign in enumerate(rows[one])}
            found = rings(tree, one, other)
            self.assertEqual(sorted(sum(found, [])), list(columns))
            self.assertEqual([ring[0] for ring in found], sorted(min(ring) for ring in found))
            for ring in found:
                for c, behind in zip(ring, ring[1:] + ring[:1]):
                    self.assertEqual(places[rows[other][c]], behind)

    def test_errors_of_rings(self):
        for tree in NO_TREES:
            for pair in ((0, 1), (0, 0), (-1, 5)):
                with self.assertRaises(InvalidSquare):
                    rings(tree, *pair)
        for tree in (THREE, ("sum", 2000, 1, 1), ("listed", [[0]])):
            size = order(tree)
            for pair in ((0, 0), (size - 1, size - 1), (-1, 0), (0, -1), (size, 0), (0, size),
                         (-1, -1), (size, size), (0, 10 ** 31)):
                with self.assertRaises(InvalidQuestion):
                    rings(tree, *pair)
        for tree in (("sum", 2001, 1, 1), GREAT[0][0], ("field", 2, 11, 5)):
            for pair in ((0, 1), (0, 0)):
                with self.assertRaises(InvalidQuestion):
                    rings(tree, *pair)


class SwitchedTest(unittest.TestCase):
    def test_small_squares(self):
        for tree in [tree for tree in TREES if order(tree) <= 12]:
            rows = naive.rows_of(tree)
            size = len(rows)
            before = copy.deepcopy(tree)
            for one, other in list(permutations(range(size), 2))[::1 if size < 6 else 13]:
                for ring in slow.rings(rows, one, other):
                    right = [list(row) for row in rows]
                    for c in ring:
                        right[one][c], right[other][c] = rows[other][c], rows[one][c]
                    right = ("listed", tuple(tuple(row) for row in right))
                    self.assertTrue(naive.is_square(right[1]))
                    for column in (ring[0], ring[-1]):
                        found = switched(tree, one, other, column)
                        self.assertEqual(found, right)
                        self.assertEqual(switched(found, one, other, column), ("listed", rows))
            self.assertEqual(tree, before)

    def test_errors(self):
        for tree in NO_TREES:
            for numbers in ((0, 1, 0), (0, 0, 0), (-1, 5, 7)):
                with self.assertRaises(InvalidSquare):
                    switched(tree, *numbers)
        for tree in (THREE, ("sum", 12, 1, 1), ("listed", [[0]])):
            size = order(tree)
            for numbers in ((0, 0, 0), (size - 1, size - 1, 0), (-1, 0, 0), (0, -1, 0), (0, 1, -1),
                            (size, 0, 0), (0, size, 0), (0, 1, size), (0, 1, 10 ** 31)):
                with self.assertRaises(InvalidQuestion):
                    switched(tree, *numbers)
        for tree in (("sum", 13, 1, 1), GREAT[0][0], ("product", THREE, ("sum", 5, 1, 1))):
            with self.assertRaises(InvalidQuestion):
                switched(tree, 0, 1, 0)


if __name__ == "__main__":
    unittest.main()
