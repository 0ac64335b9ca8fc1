"""Families by formula: points 43 to 47, 51 to 53, 55 and 56."""

import copy
import unittest
from itertools import combinations, permutations, product

from matedsquares import families as module
from matedsquares.errors import InvalidOrder, InvalidQuestion
from matedsquares.families import Family, parts_for
from matedsquares.judged import is_family
from tests import naive
from tests.naive_families import NaiveFamily
from tests.test_fields import NO_FIELDS

SMALL = [
    [(2, 1)], [(3, 1)], [(2, 2)], [(5, 1)], [(7, 1)], [(2, 3)], [(3, 2)], [(2, 4)],
    [(2, 1), (3, 1)], [(3, 1), (2, 1)], [(2, 2), (3, 1)], [(3, 1), (2, 2)], [(5, 1), (3, 1)],
    [(2, 2), (5, 1)], [(2, 1), (3, 1), (5, 1)], [(3, 1), (5, 1), (2, 2)],
]
NAIVE = {tuple(parts): NaiveFamily(parts) for parts in SMALL}
FIVE_PRIMES = [(999983, 1), (999953, 1), (999979, 1), (999961, 1), (999959, 1)]
GREAT = [
    FIVE_PRIMES, [(97, 7), (31, 10)], [(2, 12), (3, 12), (5, 12)], [(17, 12)], [(999983, 1)],
    [(3, 1), (2, 12), (7, 2), (5, 3), (11, 2), (13, 1), (999979, 1)],
    [(p, 1) for p in range(73, 2, -1) if naive.is_prime(p)],
    [(2, 1), (97, 7), (999983, 1)],
]
GREAT_NAIVE = [(parts, NaiveFamily(parts)) for parts in GREAT]
NO_PARTS = [
    [], (), 5, None, "", "21", {2: 1}, [5], [()], [(2,)], [(2, 1, 1)], [2, 1], [[2, 1], 3], ["21"],
    [("2", 1)], [(2, "1")], [(2, None)], [None], [((2, 1), (3, 1))], [(2, 1), (2, 1)],
    [(2, 1), (2, 2)], [(3, 2), (2, 1), (3, 1)], [(2, 1), (3, 1), (5, 1), (2, 3)], [(2, 1), (4, 1)],
    [(97, 7), (89, 7), (83, 7)], [(97, 7), (89, 7), (2, 9)], FIVE_PRIMES + [(2, 1)],
    FIVE_PRIMES + [(3, 1)], FIVE_PRIMES + [(999931, 1)],
    [(p, 1) for p in range(2, 80) if naive.is_prime(p)],
] + [[pair] for pair in NO_FIELDS] + [[(2, 1), pair] for pair in NO_FIELDS]


def some_points(order):
    return sorted({0, 1, order - 1, order // 2, order // 3 + 7, order * 7 // 11})


def some_kinds(many):
    return sorted({kind for kind in (-1, 0, 1, 2, 3, many // 2, many - 1, many) if kind <= many})


class PartsTest(unittest.TestCase):
    def test_examples(self):
        family = Family([(2, 2), (3, 1)])
        self.assertEqual(
            (family.order, family.many, [family.sign(2, 5, column) for column in (0, 1, 3, 4)]),
            (12, 2, [5, 4, 11, 10]))
        self.assertEqual(
            (family.cell((1, 7), (2, 4)), family.told((-1, 3), (0, 5), 1), parts_for(360)),
            ((10, 3), 2, ((2, 3), (3, 2), (5, 1))))

    def test_attributes(self):
        for parts in SMALL + GREAT:
            order = 1
            for p, k in parts:
                order *= p ** k
            for form in (parts, tuple(parts), [list(pair) for pair in parts],
                         tuple(list(pair) for pair in parts)):
                before = copy.deepcopy(form)
                family = Family(form)
                self.assertEqual(family.parts, tuple(parts))
                self.assertIsInstance(family.parts, tuple)
                self.assertTrue(all(isinstance(pair, tuple) for pair in family.parts))
                self.assertEqual(family.order, order)
                self.assertEqual(family.many, min(p ** k for p, k in parts) - 1)
                self.assertEqual(form, before)
                self.assertLessEqual({"parts", "order", "many"}, set(vars(family)))

    def test_refused(self):
        for parts in NO_PARTS:
            with self.assertRaises(InvalidOrder, msg=str(parts)):
                Family(parts)
            if isinstance(parts, list):
                with self.assertRaises(InvalidOrder):
                    Family(tuple(parts))

    def test_product_of_at_most_ten_to_the_thirty(self):
        self.assertLessEqual(Family(FIVE_PRIMES).order, 10 ** 30)
        below = [(2, 12), (3, 12), (5, 12), (7, 12), (101, 1)]
        self.assertEqual(Family(below[:4]).order, 210 ** 12)
        self.assertEqual(Family(below).order, 210 ** 12 * 101)
        self.assertEqual(Family([(97, 7), (89, 7), (2, 8)]).order, 97 ** 7 * 89 ** 7 * 256)
        self.assertLess(210 ** 12 * 131, 10 ** 30)
        self.assertGreater(210 ** 12 * 137, 10 ** 30)
        self.assertEqual(Family(below[:4] + [(131, 1)]).order, 210 ** 12 * 131)
        with self.assertRaises(InvalidOrder):
            Family(below[:4] + [(137, 1)])

    def test_does_not_change(self):
        parts = [[2, 2], [3, 1]]
        family = Family(parts)
        parts[0][0] = 5
        parts.append((7, 1))
        before = copy.deepcopy((family.parts, family.order, family.many))
        rows = [[family.sign(2, r, c) for c in range(12)] for r in range(12)]
        kinds, one, other = [1, 2, -1], [1, 5], [2, 3]
        for _ in range(2):
            self.assertEqual(family.parts, ((2, 2), (3, 1)))
            family.cell(one, other), family.told(one, other, -1), family.word(3, 4, kinds)
            family.row_for(1, 2, 3), family.column_for(2, 3, 4)
            with self.assertRaises(InvalidQuestion):
                family.sign(3, 0, 0)
            self.assertEqual((family.parts, family.order, family.many), before)
            self.assertEqual([[family.sign(2, r, c) for c in range(12)] for r in range(12)], rows)
        self.assertEqual((kinds, one, other), ([1, 2, -1], [1, 5], [2, 3]))

    def test_interface(self):
        self.assertEqual(Family.__module__, "matedsquares.families")
        self.assertEqual(module.parts_for.__module__, "matedsquares.families")
        for name in ("sign", "row_for", "column_for", "cell", "told", "word"):
            self.assertIn(name, vars(Family))


class PartsForTest(unittest.TestCase):
    def test_small_orders(self):
        for order in range(-3, 3000):
            right = self.parts_by_words(order)
            if right is None:
                with self.assertRaises(InvalidOrder, msg=str(order)):
                    parts_for(order)
            else:
                self.assertEqual(parts_for(order), right)

    def parts_by_words(self, order):
        """By division; below 3000 the one bound that is met is that of the degree."""
        if order < 2:
            return None
        parts, divisor = [], 2
        while order > 1:
            degree = 0
            while order % divisor == 0:
                order, degree = order // divisor, degree + 1
            if degree:
                if divisor > 97 and degree > 1 or degree > 12:
                    return None
                parts.append((divisor, degree))
            divisor += 1
        return tuple(parts)

    def test_great_orders(self):
        for parts in GREAT:
            order = 1
            for p, k in parts:
                order *= p ** k
            self.assertEqual(parts_for(order), tuple(sorted(parts)))
            self.assertEqual(Family(parts_for(order)).order, order)
        for order, parts in (
                (2 ** 12, ((2, 12),)), (4096 * 999983, ((2, 12), (999983, 1))),
                (999983, ((999983, 1),)), (210 ** 12, ((2, 12), (3, 12), (5, 12), (7, 12))),
                (999983 * 999979, ((999979, 1), (999983, 1)))):
            self.assertEqual(parts_for(order), parts)

    def test_refused(self):
        for order in (
                1, 0, -1, -6, -10 ** 30, 10 ** 30 + 1, 10 ** 31, 210 ** 12 * 137, 2 ** 101,
                10 ** 30, 2 ** 13, 3 ** 13, 2 ** 13 * 3, 5 ** 13, 97 ** 8, 19 ** 12, 101 ** 2,
                101 ** 2 * 2, 999983 ** 2, 997 ** 3, 1000003, 2 * 1000003, 1000003 ** 2,
                1000003 * 1000033, 10 ** 15 + 37, 10 ** 30 - 11, 10 ** 30 - 1, 999983 * 1000003,
                1000003 ** 5 // 1000003, 999983 ** 5, 10 ** 9 + 7, 2 ** 61 - 1, 2 ** 89 - 1):
            with self.assertRaises(InvalidOrder, msg=str(order)):
                parts_for(order)


class CellsTest(unittest.TestCase):
    def test_signs_of_all_cells(self):
        for parts in SMALL:
            family, slow = Family(parts), NAIVE[tuple(parts)]
            tables = slow.tables()
            points = range(family.order)
            for number in range(1, family.many + 1):
                rows = [[family.sign(number, r, c) for c in points] for r in points]
                self.assertEqual(rows, tables[number])
                self.assertTrue(naive.is_square(rows))
                for r, c in product(points, points[::1 if family.order < 20 else 7]):
                    sign = rows[r][c]
                    self.assertEqual(family.row_for(number, c, sign), r)
                    self.assertEqual(family.column_for(number, r, sign), c)

    def test_all_kinds_at_all_cells(self):
        for parts in SMALL:
            family, slow = Family(parts), NAIVE[tuple(parts)]
            tables = slow.tables()
            kinds = list(slow.kinds)
            points = range(0, family.order, 1 if family.order <= 9 else 5)
            for r, c in product(points, points):
                right = tuple(tables[kind][r][c] for kind in kinds)
                self.assertEqual(family.word(r, c, kinds), right)
                self.assertEqual(family.word(r, c, tuple(kinds[::-1])), right[::-1])
                for one, other in permutations(kinds[:6], 2):
                    pairs = [one, right[one + 1]], (other, right[other + 1])
                    self.assertEqual(family.cell(*pairs), (r, c))
                    self.assertEqual(family.told(*pairs, one), right[one + 1])
                    self.assertEqual(family.told(*pairs, kinds[-1]), right[-1])

    def test_any_two_points_of_two_kinds(self):
        for parts in ([(2, 2)], [(2, 1), (3, 1)], [(2, 2), (3, 1)], [(7, 1)]):
            family, tables = Family(parts), NAIVE[tuple(parts)].tables()
            for one, other in permutations(tables, 2):
                cells = {}
                for r, c in product(range(family.order), repeat=2):
                    cells.setdefault((tables[one][r][c], tables[other][r][c]), []).append((r, c))
                self.assertEqual(len(cells), family.order ** 2)
                for (first, second), right in cells.items():
                    self.assertEqual([family.cell((one, first), (other, second))], right)
                    self.assertEqual(family.cell([other, second], [one, first]), right[0])
                    for wanted in tables:
                        told = family.told((one, first), [other, second], wanted)
                        self.assertEqual(told, tables[wanted][right[0][0]][right[0][1]])

    def test_words(self):
        family = Family([(2, 2), (3, 1)])
        self.assertEqual(family.word(5, 4, []), ())
        self.assertEqual(family.word(5, 4, (2, 2, -1, 0, 2)), (10, 10, 4, 5, 10))

    def test_each_two_are_mates(self):
        for parts in SMALL:
            family, order = Family(parts), Family(parts).order
            squares = [[[family.sign(j, r, c) for c in range(order)] for r in range(order)]
                       for j in range(1, family.many + 1)]
            if order <= 12:
                self.assertIs(is_family(squares), True)
            for one, other in combinations(squares, 2):
                pairs = {(one[r][c], other[r][c]) for r in range(order) for c in range(order)}
                self.assertEqual(len(pairs), order * order)

    def test_squares_of_four_differ_by_the_element_three(self):
        # 1 and 2 as elements differ by 3, so in one row the signs of the squares 1 and 2 at a
        # column differ by 3 times it.
        family = Family([(2, 2)])
        self.assertEqual([family.cell((1, s), (2, 0))[1] for s in range(4)], [0, 2, 3, 1])

    def test_great_families(self):
        for parts, slow in GREAT_NAIVE:
            family = Family(parts)
            kinds = some_kinds(family.many)
            for r, c in product(some_points(family.order)[::2], some_points(family.order)[1:]):
                word = family.word(r, c, kinds)
                self.assertEqual(word, tuple(slow.has(kind, r, c) for kind in kinds))
                for one, other in list(permutations(range(len(kinds)), 2))[::5]:
                    pairs = (kinds[one], word[one]), (kinds[other], word[other])
                    self.assertEqual(family.cell(*pairs), (r, c))
                    self.assertEqual(family.cell(*pairs[::-1]), (r, c))
                    self.assertEqual(family.told(*pairs, kinds[2]), word[2])
                number = kinds[-1]
                self.assertEqual(family.sign(number, r, c), word[-1])
                self.assertEqual(family.row_for(number, c, word[-1]), r)
                self.assertEqual(family.column_for(number, r, word[-1]), c)

    def test_any_points_of_great_families(self):
        for parts, slow in GREAT_NAIVE:
            family = Family(parts)
            kinds = some_kinds(family.many)
            points = some_points(family.order)
            for at, (one, other) in enumerate(combinations(kinds, 2)):
                x, y = points[at % 6], points[(at + 2) % 6]
                r, c = family.cell((one, x), (other, y))
                self.assertEqual((slow.has(one, r, c), slow.has(other, r, c)), (x, y))


class ErrorsTest(unittest.TestCase):
    def refused(self, function, *arguments):
        with self.assertRaises(InvalidQuestion, msg=str(arguments)):
            function(*arguments)

    def test_numbers_kinds_and_points(self):
        for parts in ([(2, 1)], [(5, 1)], [(2, 2), (3, 1)], FIVE_PRIMES):
            family = Family(parts)
            last, many = family.order - 1, family.many
            self.assertEqual(len(family.word(last, last, [-1, 0, many])), 3)
            for wrong in (-1, -2, 0, many + 1, many + 2, 10 ** 30, -10 ** 30):
                for function in (family.sign, family.row_for, family.column_for):
                    self.refused(function, wrong, 0, 0)
                    self.refused(function, wrong, -1, family.order)
            for wrong in (-1, -2, family.order, family.order + 1, 10 ** 31, -10 ** 31):
                for function in (family.sign, family.row_for, family.column_for):
                    self.refused(function, 1, wrong, 0)
                    self.refused(function, many, last, wrong)
                self.refused(family.cell, (0, wrong), (1, 0))
                self.refused(family.cell, (-1, 0), [many, wrong])
                self.refused(family.told, (0, wrong), (1, 0), 1)
                self.refused(family.told, (0, 0), (1, wrong), 1)
                self.refused(family.word, wrong, 0, [])
                self.refused(family.word, 0, wrong, [1])
            for wrong in (-2, -3, many + 1, many + 2, 10 ** 30, -10 ** 30):
                self.refused(family.cell, (wrong, 0), (1, 0))
                self.refused(family.cell, (1, 0), (wrong, 0))
                self.refused(family.told, (wrong, 0), (1, 0), 0)
                self.refused(family.told, (1, 0), (wrong, 0), 0)
                self.refused(family.told, (0, 0), (1, 0), wrong)
                self.refused(family.word, 0, 0, [wrong])
                self.refused(family.word, 0, 0, (0, 1, wrong, -1))

    def test_two_kinds_that_are_one(self):
        for parts in ([(2, 1)], [(5, 1)], [(2, 2), (3, 1)], FIVE_PRIMES):
            family = Family(parts)
            for kind in {-1, 0, 1, family.many}:
                for points in ((0, 0), (0, 1), (1, 0)):
                    pairs = (kind, points[0]), (kind, points[1])
                    self.refused(family.cell, *pairs)
                    self.refused(family.told, *pairs, 0)
                    self.refused(family.told, *pairs, -2)

    def test_edges_are_answered(self):
        family = Family([(2, 1)])
        self.assertEqual([family.cell((-1, 1), (1, 1)), family.sign(1, 1, 1)], [(0, 1), 0])
        self.assertEqual(family.told((0, 1), (1, 1), -1), 0)


if __name__ == "__main__":
    unittest.main()
