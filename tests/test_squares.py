"""Squares told by trees: points 2 to 7."""

import copy
import unittest
from itertools import permutations, product

from matedsquares import squares
from matedsquares.errors import InvalidQuestion, InvalidSquare
from matedsquares.squares import (
    checked, column_of, is_square_tree, listed, order, part_count, row_of, sign, table,
)
from tests import naive

THREE = ("listed", ((0, 2, 1), (2, 1, 0), (1, 0, 2)))
SKEW = ("listed", [[0, 1, 2, 3], (1, 0, 3, 2), [3, 2, 0, 1], [2, 3, 1, 0]])
TWELVE = ("listed", [[(5 * r + 7 * c) % 12 for c in range(12)] for r in range(12)])
THIRTEEN_ROWS = [[(r + c) % 13 for c in range(13)] for r in range(13)]
LEAVES = [
    ("listed", [[0]]), THREE, SKEW, TWELVE,
    ("sum", 1, 1, 1), ("sum", 2, 1, 1), ("sum", 10, 3, 7), ("sum", 9, 2, 8),
    ("field", 2, 1, 1), ("field", 2, 2, 3), ("field", 2, 3, 5), ("field", 3, 2, 7),
    ("field", 5, 1, 3), ("field", 3, 3, 14),
]
TURNS = list(permutations((0, 1, 2)))
NESTED = [
    ("product", THREE, ("sum", 5, 2, 3)),
    ("product", ("field", 2, 2, 3), ("product", SKEW, ("sum", 3, 1, 2))),
    ("product", ("product", ("sum", 3, 2, 1), THREE), ("field", 5, 1, 4)),
    ("turned", ("product", THREE, ("turned", ("field", 2, 2, 2), (2, 0, 1))), (1, 2, 0)),
    ("product", ("turned", SKEW, (2, 1, 0)), ("turned", ("sum", 5, 2, 3), (0, 2, 1))),
    ("turned", ("turned", ("turned", SKEW, (1, 2, 0)), (1, 2, 0)), (1, 2, 0)),
]
SMALL = LEAVES + [("turned", tree, turn) for tree in LEAVES[1:12] for turn in TURNS] + NESTED + \
    [("turned", tree, turn) for tree in NESTED[:2] for turn in TURNS]

GREAT_LEAVES = [
    ("sum", 10 ** 30, 3, 7), ("sum", 10 ** 30, 10 ** 30 - 1, 10 ** 29 + 1),
    ("field", 97, 7, 97 ** 7 - 1), ("field", 17, 12, 12345678901234), ("field", 2, 12, 4095),
    ("field", 999983, 1, 999982),
]
GREAT_PRODUCTS = [
    ("product", ("sum", 10 ** 20, 3, 7), ("field", 2, 2, 3)),
    ("product", ("field", 97, 7, 5), ("field", 31, 10, 31 ** 9)),
    ("product", ("turned", ("field", 3, 12, 100), (2, 1, 0)),
     ("product", ("sum", 10 ** 12 + 39, 5, 6), SKEW)),
]
GREAT = GREAT_LEAVES + GREAT_PRODUCTS + \
    [("turned", tree, turn) for tree in GREAT_LEAVES[1:4] + GREAT_PRODUCTS for turn in TURNS]


def turned_often(tree, count):
    for _ in range(count):
        tree = ("turned", tree, (0, 1, 2))
    return tree


def product_of(count):
    tree = ("sum", 2, 1, 1)
    for _ in range(count - 1):
        tree = ("product", tree, ("sum", 2, 1, 1))
    return tree


def doubled(count):
    tree = ("sum", 1, 1, 1)
    for _ in range(count):
        tree = ("product", tree, tree)
    return tree


GOOD = ("sum", 3, 1, 1)
NO_LISTED = [
    (), [], [[]], [()], 5, None, "01", {0: 0}, [0], [5], ["0"], [[1]], [[-1]], [["0"]], [[None]],
    [[0, 1]], [[0], [1]], [[0, 1], [0, 1]], [[0, 0], [1, 1]], [[0, 1], [1]], [[0, 1], [1, 0, 2]],
    [[0, 1], [1, 2]], [[0, 1], [1, 0], [0, 1]], [[0, 1, 2], [1, 2, 0], [2, 1, 0]],
    [[0, 2, 1], [1, 0, 2], [2, 1, 3]], [[1, 2], [2, 1]], [[0, 1], 7], [[0, 1], "10"],
    THIRTEEN_ROWS, THIRTEEN_ROWS[:12], [row[:12] for row in THIRTEEN_ROWS],
    [row[:12] for row in THIRTEEN_ROWS[:12]],
]
NO_SUMS = [
    (0, 1, 1), (-1, 1, 1), (1, 0, 1), (1, 1, 0), (1, 2, 1), (1, 1, 2), (3, 0, 1), (3, 1, 0),
    (3, 3, 1), (3, 1, 3), (3, 4, 1), (3, 1, 4), (3, -1, 1), (3, 1, -1), (4, 2, 1), (4, 1, 2),
    (6, 3, 1), (6, 1, 4), (10 ** 20, 10 ** 19 + 5, 1), (10 ** 20, 1, 2), (10 ** 30 + 1, 1, 1),
    (10 ** 40, 1, 1), ("3", 1, 1), (3, "1", 1), (3, 1, None), (3, (1,), 1),
]
NO_FIELD_PARTS = [
    (2, 2, 0), (2, 2, 4), (2, 2, -1), (2, 1, 2), (4, 1, 1), (1, 1, 1), (0, 1, 1), (-2, 1, 1),
    (2, 0, 1), (2, -1, 1), (2, 13, 1), (101, 2, 1), (97, 8, 1), (1000003, 1, 1), (6, 1, 1),
    (97, 7, 97 ** 7), (97, 7, 0), ("2", 1, 1), (2, "1", 1), (2, 1, "1"), (2, 1, None),
]
NO_PLACES = [
    (), (0,), (0, 1), (0, 1, 1), (0, 1, 3), (1, 2, 3), (0, 1, 2, 3), (0, 0, 0), (-1, 0, 1),
    5, None, "012", ("0", "1", "2"), (0, 1, None),
]
NO_TREES = [
    (), (5,), ("listed",), ("sum",), ("field",), ("product",), ("turned",), ("other",), ("Sum", 3, 1, 1),
    ("other", 3, 1, 1), (None, 3, 1, 1), (0, [[0]]), (("sum", 3, 1, 1),), ("sum", 3, 1),
    ("sum", 3, 1, 1, 1), ("field", 2, 2), ("field", 2, 2, 1, 1), ("listed", [[0]], 1),
    ("listed", [[0]], [[0]]), ("product", GOOD), ("product", GOOD, GOOD, GOOD), ("turned", GOOD),
    ("turned", (0, 1, 2)), ("turned", GOOD, (0, 1, 2), 0), ("turned", GOOD, 0, 1, 2),
    ("product", GOOD, ()), ("product", (), GOOD), ("product", 5, GOOD), ("product", GOOD, None),
    ("product", GOOD, ["sum", 3, 1, 1]), ("turned", ["sum", 3, 1, 1], (0, 1, 2)),
    ("turned", 7, (0, 1, 2)), ("turned", ("sum", 4, 2, 1), (0, 1, 2)),
    ("product", GOOD, ("turned", GOOD, (0, 1, 1))), ("product", ("field", 4, 1, 1), GOOD),
    turned_often(GOOD, 12), turned_often(GOOD, 50000), product_of(7), doubled(3), doubled(60),
    ("turned", ("turned", product_of(6), (0, 1, 2)), (0, 1, 2)),
    ("product", ("sum", 10 ** 15 + 1, 1, 1), ("sum", 10 ** 15, 1, 1)),
    ("product", ("sum", 10 ** 30, 1, 1), ("sum", 2, 1, 1)),
    ("turned", ("product", ("field", 97, 7, 1), ("sum", 10 ** 17, 1, 1)), (1, 0, 2)),
    ("product", ("product", ("sum", 10 ** 29, 1, 1), ("sum", 2, 1, 1)), ("sum", 6, 1, 1)),
] + [("listed", rows) for rows in NO_LISTED] + [("sum", *numbers) for numbers in NO_SUMS] + \
    [("field", *numbers) for numbers in NO_FIELD_PARTS] + \
    [("turned", GOOD, places) for places in NO_PLACES]


class TreesTest(unittest.TestCase):
    def test_examples(self):
        tree = ("product", ("sum", 10 ** 20, 3, 7), ("field", 2, 2, 3))
        own = sign(tree, 5, 6)
        self.assertEqual((order(tree), own, row_of(tree, 6, own), column_of(tree, 5, own)),
                         (400000000000000000000, 40, 5, 6))
        self.assertEqual(table(("sum", 3, 1, 2)), ((0, 2, 1), (1, 0, 2), (2, 1, 0)))
        self.assertEqual(table(("turned", ("sum", 3, 1, 2), (2, 0, 1))),
                         ((0, 1, 2), (2, 0, 1), (1, 2, 0)))
        with self.assertRaises(InvalidQuestion):
            sign(("sum", 3, 1, 1), 0, 3)

    def test_trees_are_trees(self):
        for tree in SMALL + GREAT:
            self.assertIs(is_square_tree(tree), True, tree)

    def test_what_is_no_tree_is_refused_by_all_and_first(self):
        for tree in NO_TREES:
            self.assertIs(is_square_tree(tree), False)
            for call in (
                    lambda: checked(tree), lambda: order(tree), lambda: part_count(tree),
                    lambda: sign(tree, 0, 0), lambda: sign(tree, -1, 10 ** 40),
                    lambda: row_of(tree, 0, 0), lambda: row_of(tree, -1, 10 ** 40),
                    lambda: column_of(tree, 0, 0), lambda: column_of(tree, -1, 10 ** 40),
                    lambda: table(tree), lambda: listed(tree)):
                with self.assertRaises(InvalidSquare):
                    call()

    def test_sums_are_of_coprime_integers(self):
        for n, a, b in product(range(-1, 9), range(-1, 10), range(-1, 10)):
            right = n >= 1 and 1 <= a <= n and 1 <= b <= n
            right = right and all(n % d or a % d and b % d for d in range(2, n + 1))
            self.assertIs(is_square_tree(("sum", n, a, b)), right, (n, a, b))

    def test_listed_ones_of_order_three(self):
        for signs in product(range(3), repeat=9):
            rows = (signs[:3], signs[3:6], signs[6:])
            self.assertIs(is_square_tree(("listed", rows)), naive.is_square(rows))

    def test_checked_returns_tuples(self):
        self.assertEqual(checked(("listed", [[0, 1], (1, 0)])), ("listed", ((0, 1), (1, 0))))
        tree = ("product", ("turned", ("listed", [[0]]), [2, 0, 1]), ("listed", ([0, 1], [1, 0])))
        right = ("product", ("turned", ("listed", ((0,),)), (2, 0, 1)),
                 ("listed", ((0, 1), (1, 0))))
        self.assertEqual(checked(tree), right)
        for tree in SMALL + GREAT:
            kept = checked(tree)
            self.assertTrue(self.is_of_tuples(kept), kept)
            self.assertEqual(checked(kept), kept)
            self.assertEqual(order(kept), order(tree))

    def is_of_tuples(self, value):
        if isinstance(value, tuple):
            return all(self.is_of_tuples(member) for member in value)
        return isinstance(value, (str, int))

    def test_nothing_that_is_passed_changes(self):
        for tree in SMALL:
            before = copy.deepcopy(tree)
            checked(tree), order(tree), part_count(tree), is_square_tree(tree)
            sign(tree, 0, 0), row_of(tree, 0, 0), column_of(tree, 0, 0), table(tree)
            self.assertEqual(tree, before)
        rows = [[0, 1], [1, 0]]
        kept = checked(("listed", rows))
        rows[0][0] = 5
        self.assertEqual(kept, ("listed", ((0, 1), (1, 0))))


class OrderTest(unittest.TestCase):
    def test_small(self):
        for tree in SMALL:
            self.assertEqual(order(tree), naive.cells_of(tree)[0], tree)

    def test_bounds(self):
        half = ("sum", 10 ** 15, 1, 1)
        for tree in (("sum", 10 ** 30, 1, 1), ("product", half, half),
                     ("turned", ("product", half, half), (1, 2, 0)),
                     ("product", ("sum", 10 ** 30, 1, 1), ("listed", [[0]])),
                     ("product", ("field", 5, 1, 1), ("sum", 2 * 10 ** 29, 1, 1))):
            self.assertEqual(order(tree), 10 ** 30)
        for tree in (("sum", 10 ** 30 + 1, 1, 1), ("product", half, ("sum", 10 ** 15 + 1, 1, 1)),
                     ("product", ("field", 5, 1, 1), ("sum", 2 * 10 ** 29 + 1, 1, 1))):
            self.assertIs(is_square_tree(tree), False)

    def test_order_of_fields(self):
        self.assertEqual(order(("field", 97, 7, 1)), 97 ** 7)
        self.assertEqual(order(("product", ("field", 17, 12, 1), ("field", 17, 12, 1))), 17 ** 24)


class PartsTest(unittest.TestCase):
    def test_counts(self):
        self.assertEqual([part_count(tree) for tree in LEAVES], [1] * len(LEAVES))
        self.assertEqual([part_count(tree) for tree in NESTED], [3, 5, 5, 5, 5, 4])
        for count in range(12):
            self.assertEqual(part_count(turned_often(THREE, count)), count + 1)
        for count in range(1, 7):
            self.assertEqual(part_count(product_of(count)), 2 * count - 1)

    def test_equal_parts_count_as_often_as_they_stand(self):
        self.assertEqual(part_count(doubled(1)), 3)
        self.assertEqual(part_count(doubled(2)), 7)
        self.assertIs(is_square_tree(doubled(3)), False)

    def test_twelve_and_thirteen(self):
        for tree in (turned_often(THREE, 11), turned_often(product_of(6), 1),
                     ("product", turned_often(THREE, 4), turned_often(SKEW, 5))):
            self.assertEqual(part_count(tree), 12)
            self.assertIs(is_square_tree(tree), True)
            wider = ("turned", tree, (0, 1, 2))
            self.assertIs(is_square_tree(wider), False)
            with self.assertRaises(InvalidSquare):
                part_count(wider)


class CellsTest(unittest.TestCase):
    def test_every_cell_of_small_ones(self):
        for tree in SMALL:
            size, cells = naive.cells_of(tree)
            self.assertTrue(naive.is_square(naive.rows_of(tree)))
            for r, c, s in cells[::1 if size < 9 else size // 3]:
                self.assertEqual(sign(tree, r, c), s, (tree, r, c))
                self.assertEqual(row_of(tree, c, s), r, (tree, c, s))
                self.assertEqual(column_of(tree, r, s), c, (tree, r, s))

    def test_ways_lead_back_in_great_ones(self):
        for tree in GREAT:
            size = order(tree)
            points = [1, size // 3, size - 1]
            for one, other in product(points, points):
                own = sign(tree, one, other)
                self.assertEqual((row_of(tree, other, own), column_of(tree, one, own)),
                                 (one, other))
                column = column_of(tree, one, other)
                self.assertEqual((sign(tree, one, column), row_of(tree, column, other)),
                                 (other, one))
                row = row_of(tree, one, other)
                self.assertEqual((sign(tree, row, one), column_of(tree, row, other)),
                                 (other, one))

    def test_great_sums_by_their_formula(self):
        n = 10 ** 30
        for a, b in ((3, 7), (n - 1, 10 ** 29 + 1)):
            for r, c in ((0, 0), (1, 2), (n - 1, n - 1), (123456789 ** 3, 987654321 ** 3)):
                self.assertEqual(sign(("sum", n, a, b), r, c), (a * r + b * c) % n)

    def test_great_fields_by_their_formula(self):
        for p, k in ((97, 7), (17, 12), (2, 12)):
            # An element below p is multiplied figure by figure.
            size = p ** k
            for r, c in ((5, size - 1), (size // 3, size // 7), (size - 1, 1)):
                for a in (1, p - 1):
                    pairs = zip(naive.figures(p, k, r), naive.figures(p, k, c))
                    right = naive.number_of(p, [one + a * other for one, other in pairs])
                    self.assertEqual(sign(("field", p, k, a), r, c), right)

    def test_great_products_by_their_parts(self):
        for tree in GREAT_PRODUCTS:
            _, first, second = tree
            size = order(second)
            for r, c in ((0, 0), (order(tree) - 1, 17), (order(tree) // 3, order(tree) // 7)):
                high = sign(first, r // size, c // size)
                low = sign(second, r % size, c % size)
                self.assertEqual(sign(tree, r, c), high * size + low)

    def test_turned_great_ones_by_their_parts(self):
        for tree in GREAT_LEAVES[1:4] + GREAT_PRODUCTS:
            size = order(tree)
            for r, c in ((size - 1, size // 2), (size // 3, 1)):
                cell = (r, c, sign(tree, r, c))
                for turn in TURNS:
                    turned = ("turned", tree, turn)
                    new = tuple(cell[place] for place in turn)
                    self.assertEqual(sign(turned, new[0], new[1]), new[2])
                    self.assertEqual(row_of(turned, new[1], new[2]), new[0])
                    self.assertEqual(column_of(turned, new[0], new[2]), new[1])

    def test_refused_points(self):
        for tree in (("listed", [[0]]), THREE, ("sum", 10, 3, 7), ("field", 2, 3, 5),
                     NESTED[1], NESTED[3], GREAT_LEAVES[0], GREAT_PRODUCTS[1]):
            size = order(tree)
            for wrong in (-1, -2, size, size + 1, 10 ** 31, -10 ** 31):
                for function in (sign, row_of, column_of):
                    for pair in ((wrong, 0), (0, wrong), (wrong, wrong), (wrong, size - 1)):
                        with self.assertRaises(InvalidQuestion):
                            function(tree, *pair)
            for function in (sign, row_of, column_of):
                self.assertIn(function(tree, size - 1, size - 1), (range(size)))

    def test_no_search_in_great_ones(self):
        # A search would not end before the machine does.
        tree = ("turned", ("product", ("sum", 10 ** 15 - 1, 2, 4), ("sum", 10 ** 15, 3, 7)), (2, 1, 0))
        self.assertEqual(sign(tree, row_of(tree, 10 ** 29, 10 ** 28), 10 ** 29), 10 ** 28)


class TableTest(unittest.TestCase):
    def test_cell_by_cell(self):
        for tree in SMALL:
            size = order(tree)
            self.assertLessEqual(size, 100)
            right = naive.rows_of(tree)
            self.assertEqual(table(tree), right)
            self.assertTrue(naive.is_square(right))
            if size <= 12:
                self.assertEqual(listed(tree), ("listed", right))
                self.assertEqual(table(listed(tree)), right)
            else:
                with self.assertRaises(InvalidQuestion):
                    listed(tree)

    def test_bounds(self):
        for tree in (("sum", 100, 3, 7), ("product", ("sum", 10, 1, 3), ("sum", 10, 3, 1)),
                     ("field", 97, 1, 5), ("field", 3, 4, 80), ("field", 2, 6, 63)):
            self.assertEqual(table(tree), naive.rows_of(tree))
        for tree in (("sum", 101, 1, 1), ("field", 101, 1, 1), ("field", 5, 3, 2),
                     ("product", ("sum", 51, 1, 1), ("sum", 2, 1, 1)), ("sum", 10 ** 30, 1, 1),
                     ("turned", ("sum", 101, 1, 1), (1, 0, 2))):
            with self.assertRaises(InvalidQuestion):
                table(tree)
            with self.assertRaises(InvalidQuestion):
                listed(tree)
        self.assertEqual(listed(("sum", 12, 5, 7)), ("listed", naive.rows_of(("sum", 12, 5, 7))))
        for tree in (("sum", 13, 1, 1), ("field", 13, 1, 1), ("product", THREE, ("sum", 5, 1, 1))):
            with self.assertRaises(InvalidQuestion):
                listed(tree)
            self.assertEqual(table(tree), naive.rows_of(tree))

    def test_interface(self):
        for name in ("is_square_tree", "checked", "order", "part_count", "sign", "row_of",
                     "column_of", "table", "listed"):
            self.assertEqual(getattr(squares, name).__module__, "matedsquares.squares")


if __name__ == "__main__":
    unittest.main()
