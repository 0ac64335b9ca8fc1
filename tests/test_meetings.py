"""Where the squares of families meet: points 48 to 50 and 53 to 55."""

import unittest
from itertools import product

from matedsquares import meetings as module
from matedsquares.errors import InvalidQuestion
from matedsquares.families import Family, parts_for
from matedsquares.meetings import agreement, diagonal, square_with, transversal, tree_of
from matedsquares.squares import checked, is_square_tree, order, part_count, sign, table
from matedsquares.transversals import is_transversal
from tests import naive
from tests.test_families import FIVE_PRIMES, GREAT_NAIVE, NAIVE, SMALL, some_kinds, some_points

SEVEN_PARTS = [(3, 1), (5, 1), (7, 1), (11, 1), (13, 1), (17, 1), (19, 1)]
REFUSED_FAMILIES = ([(2, 1)], [(5, 1)], [(2, 2), (3, 1)], FIVE_PRIMES, SEVEN_PARTS)


class MeetingsTest(unittest.TestCase):
    def test_examples(self):
        family = Family([(5, 1)])
        self.assertEqual(
            (agreement(family, (0, 1), (1, 0)), square_with(family, 2, 3, 0),
             transversal(family, 2, 4)),
            (1, 1, (2, 4, 1, 3, 0)))
        self.assertEqual(tree_of(Family([(2, 2), (3, 1)]), 2),
                         ("product", ("field", 2, 2, 2), ("field", 3, 1, 2)))

    def test_interface(self):
        for name in ("agreement", "square_with", "transversal", "diagonal", "tree_of"):
            self.assertEqual(getattr(module, name).__module__, "matedsquares.meetings")


class AgreementTest(unittest.TestCase):
    def test_small_families(self):
        for parts in SMALL:
            family, tables = Family(parts), NAIVE[tuple(parts)].tables()
            points = range(0, family.order, 1 if family.order <= 7 else 5)
            others = range(0, family.order, 1 if family.order <= 9 else 4)
            for r, c, row, column in product(points, points, others, others):
                if (r, c) != (row, column):
                    right = [kind for kind in tables if tables[kind][r][c] == tables[kind][row][column]]
                    self.assertLessEqual(len(right), 1)
                    found = agreement(family, (r, c), [row, column])
                    self.assertEqual(found, right[0] if right else None)
                    self.assertEqual(agreement(family, [row, column], (r, c)), found)

    def test_great_families(self):
        for parts, slow in GREAT_NAIVE:
            family = Family(parts)
            points = some_points(family.order)
            for kind in some_kinds(family.many):
                for r, c, x in ((points[2], points[4], points[3]), (points[5], points[1], points[0])):
                    had = slow.has(kind, r, c)
                    other = family.cell((kind, had), (0 if kind else -1, x))
                    self.assertNotEqual(other, (r, c))
                    self.assertEqual(agreement(family, (r, c), other), kind)
                    self.assertEqual(agreement(family, other, (r, c)), kind)
            # With figures that tell unlike numbers in the parts, no square has one sign at both.
            if len(parts) > 1 and family.many > 1:
                one = slow.point([2] * len(parts))
                other = slow.point([1] + [0] * (len(parts) - 1))
                self.assertIsNone(agreement(family, (one, slow.point([1] * len(parts))), (0, other)))

    def test_none_as_the_number_is_above_that_of_the_squares(self):
        # In the second part the number is 3, but there are only the squares 1 and 2.
        family = Family([(3, 1), (5, 1)])
        self.assertIsNone(agreement(family, (3, 0), (0, 1)))
        self.assertEqual(agreement(family, (2, 0), (0, 1)), 2)
        self.assertIsNone(square_with(family, 0, 1, 3))
        self.assertEqual(square_with(family, 0, 1, 2), 2)

    def test_refused(self):
        for parts in REFUSED_FAMILIES:
            family = Family(parts)
            for wrong in (-1, -2, family.order, family.order + 1, 10 ** 31):
                for cells in (((wrong, 0), (0, 1)), ((0, wrong), (0, 1)), ((0, 1), (wrong, 0)),
                              ([0, 1], [0, wrong]), ((wrong, wrong), (wrong, wrong))):
                    with self.assertRaises(InvalidQuestion):
                        agreement(family, *cells)
            for cell in ((0, 0), (1, 0), (family.order - 1, 1)):
                with self.assertRaises(InvalidQuestion):
                    agreement(family, cell, list(cell))


class SquareWithTest(unittest.TestCase):
    def test_small_families(self):
        for parts in SMALL:
            family, tables = Family(parts), NAIVE[tuple(parts)].tables()
            points = range(0, family.order, 1 if family.order <= 12 else 5)
            for r, c, own in product(points, points, range(family.order)):
                right = [j for j in range(1, family.many + 1) if tables[j][r][c] == own]
                self.assertEqual(square_with(family, r, c, own), right[0] if right else None)

    def test_great_families(self):
        for parts, slow in GREAT_NAIVE:
            family = Family(parts)
            for r, c in product(some_points(family.order)[1:4], some_points(family.order)[3:]):
                for number in some_kinds(family.many)[2:]:
                    own = slow.has(number, r, c)
                    found = square_with(family, r, c, own)
                    self.assertEqual(slow.has(found, r, c), own)
                    if all(slow.figures(c)):
                        self.assertEqual(found, number)
                self.assertEqual(square_with(family, r, 0, r), 1)
                self.assertIsNone(square_with(family, r, 0, (r + 1) % family.order))
                self.assertIsNone(square_with(family, r, c, r) if any(slow.figures(c)) else None)

    def test_refused(self):
        for parts in REFUSED_FAMILIES:
            family = Family(parts)
            for wrong in (-1, -2, family.order, family.order + 1, 10 ** 31):
                for cell in ((wrong, 0, 0), (0, wrong, 0), (0, 0, wrong)):
                    with self.assertRaises(InvalidQuestion):
                        square_with(family, *cell)


class TransversalTest(unittest.TestCase):
    def test_small_families(self):
        for parts in SMALL:
            family, tables = Family(parts), NAIVE[tuple(parts)].tables()
            points = range(family.order)
            for number in range(1, family.many + 1):
                self.assertEqual(diagonal(family, number), tuple(tables[number][x][x] for x in points))
                for own in points[::1 if family.order < 20 else 7]:
                    columns = transversal(family, number, own)
                    self.assertEqual(columns, tuple(row.index(own) for row in tables[number]))
                    for other in range(1, family.many + 1):
                        if other != number and family.order <= 12:
                            self.assertIs(is_transversal(tables[other], columns), True)

    def test_order_of_a_thousand(self):
        for parts in (parts_for(1000), ((997, 1),), parts_for(999), parts_for(840), ((31, 2),)):
            family = Family(parts)
            number = family.many
            for own in (0, family.order - 1):
                columns = transversal(family, number, own)
                self.assertEqual(sorted(columns), list(range(family.order)))
                for row in range(0, family.order, 83):
                    self.assertEqual(family.sign(number, row, columns[row]), own)
            signs = diagonal(family, number)
            self.assertEqual(len(signs), family.order)
            for at in range(0, family.order, 83):
                self.assertEqual(signs[at], family.sign(number, at, at))

    def test_refused(self):
        for parts in REFUSED_FAMILIES:
            family = Family(parts)
            for wrong in (-1, 0, family.many + 1, 10 ** 30):
                for call in (lambda: transversal(family, wrong, 0), lambda: diagonal(family, wrong),
                             lambda: tree_of(family, wrong), lambda: transversal(family, wrong, -1)):
                    with self.assertRaises(InvalidQuestion):
                        call()
            for wrong in (-1, family.order, 10 ** 31):
                with self.assertRaises(InvalidQuestion):
                    transversal(family, 1, wrong)
        for parts in (parts_for(1001), parts_for(1009), [(2, 10)], FIVE_PRIMES, [(17, 12)], SEVEN_PARTS):
            family = Family(parts)
            with self.assertRaises(InvalidQuestion):
                transversal(family, 1, 0)
            with self.assertRaises(InvalidQuestion):
                diagonal(family, 1)


class TreeTest(unittest.TestCase):
    def test_small_families(self):
        for parts in SMALL:
            family, tables = Family(parts), NAIVE[tuple(parts)].tables()
            for number in range(1, family.many + 1):
                tree = tree_of(family, number)
                self.assertEqual(checked(tree), tree)
                self.assertEqual(order(tree), family.order)
                self.assertEqual(table(tree), tuple(tuple(row) for row in tables[number]))

    def test_forms(self):
        self.assertEqual(tree_of(Family([(7, 1)]), 4), ("field", 7, 1, 4))
        family = Family([(2, 2), (3, 1), (5, 1)])
        self.assertEqual(tree_of(family, 2), (
            "product", ("field", 2, 2, 2), ("product", ("field", 3, 1, 2), ("field", 5, 1, 2))))
        six = Family(SEVEN_PARTS[:6])
        self.assertEqual(part_count(tree_of(six, 2)), 11)
        self.assertEqual(tree_of(six, 1)[1], ("field", 3, 1, 1))
        five = Family(FIVE_PRIMES)
        self.assertIs(is_square_tree(tree_of(five, five.many)), True)
        self.assertEqual(tree_of(five, five.many)[1], ("field", 999983, 1, 999952))

    def test_great_families(self):
        for parts, _ in GREAT_NAIVE:
            family = Family(parts)
            if len(parts) <= 6:
                for number in {1, family.many}:
                    tree = tree_of(family, number)
                    for r, c in zip(some_points(family.order), some_points(family.order)[::-1]):
                        self.assertEqual(sign(tree, r, c), family.sign(number, r, c))

    def test_too_many_parts(self):
        for parts in (SEVEN_PARTS, GREAT_NAIVE[5][0], GREAT_NAIVE[6][0]):
            with self.assertRaises(InvalidQuestion):
                tree_of(Family(parts), 1)
        self.assertIs(naive.is_square(table(tree_of(Family(parts_for(60)), 1))), True)


if __name__ == "__main__":
    unittest.main()
