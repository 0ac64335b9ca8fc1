"""Rows, columns and signs renamed: points 76 to 80."""

import copy
import random
import unittest
from itertools import permutations, product

from matedsquares import renaming as module
from matedsquares.errors import InvalidQuestion, InvalidSquare
from matedsquares.mates import are_mates
from matedsquares.renaming import (
    is_standard, one_after_another, renamed, same_standard, standard, standard_names, undone,
)
from matedsquares.squares import order
from tests import naive, naive_likenesses
from tests.cases import Case
from tests.test_mates import MATES
from tests.test_squares import NO_TREES, SKEW, SMALL, THREE

UP_TO_TWELVE = [tree for tree in SMALL if order(tree) <= 12]
GREATER = [("sum", 13, 1, 1), ("field", 13, 1, 5), ("product", SKEW, SKEW), ("sum", 10 ** 30, 3, 7),
           ("turned", ("field", 2, 12, 3), (2, 1, 0)), ("product", ("sum", 13, 1, 1), ("sum", 1, 1, 1))]
# What is no names of any square.
NO_NAMES = [
    None, 5, "012", (), [], {}, ((0,),), ((0,), (0,)), ((0,), (0,), (0,), (0,)), ((), (), ()), [[], [], []],
    (0, 0, 0), ("0", "0", "0"), ((0,), (0,), 0), ((0,), None, (0,)), (5, (0,), (0,)), ((0,), (0,), "0"),
    ((0,), (0,), {0: 0}), ((0,), (0, 1), (0,)), ((0, 1), (0, 1), (0,)), ((0,), (0, 1), (0, 1)), ((0,), (0,), ()),
    ((), (0,), (0,)), ((1,), (0,), (0,)), ((0,), (-1,), (0,)), ((0, 1), (0, 1), (0, 0)), ((0, 1), (1, 2), (0, 1)),
    ((0, 2), (0, 1), (0, 1)), ((0, 1, 2), (0, 1, 2), (0, 1, 3)), ((0, 1, 2), (2, 1, 2), (0, 1, 2)),
    (("0",), (0,), (0,)), ((0,), (None,), (0,)), ((0,), (0,), ((0,),)),
]


def some_names(n, rng):
    return tuple(tuple(rng.sample(range(n), n)) for _ in range(3))


def same_names(n):
    return (tuple(range(n)),) * 3


class RenamingTest(Case):
    def test_examples(self):
        self.assertEqual(renamed(("sum", 3, 1, 1), ([1, 0, 2], [0, 1, 2], [0, 2, 1])),
                         ("listed", ((2, 1, 0), (0, 2, 1), (1, 0, 2))))
        self.assertEqual(standard(("sum", 3, 1, 2)), ("listed", ((0, 1, 2), (1, 2, 0), (2, 0, 1))))
        self.assertEqual(standard_names(("sum", 3, 1, 2)), ((0, 2, 1), (0, 1, 2), (0, 2, 1)))
        self.assertEqual(undone(([1, 2, 0], [0, 1, 2], [2, 1, 0])), ((2, 0, 1), (0, 1, 2), (2, 1, 0)))

    def test_renamed(self):
        rng = random.Random(76)
        for tree in UP_TO_TWELVE:
            rows = naive.rows_of(tree)
            for names in (same_names(len(rows)), some_names(len(rows), rng), some_names(len(rows), rng)):
                right = ("listed", naive_likenesses.led(rows, names))
                for form in (names, list(names), [list(own) for own in names], (names[0], list(names[1]), names[2])):
                    before = copy.deepcopy((tree, form))
                    self.assertEqual(renamed(tree, form), right)
                    self.assertEqual((tree, form), before)

    def test_undone(self):
        rng = random.Random(77)
        for n in (1, 2, 3, 5, 12, 13, 40):
            for names in (same_names(n), some_names(n, rng), some_names(n, rng)):
                right = tuple(tuple(own.index(at) for at in range(n)) for own in names)
                for form in (names, [list(own) for own in names], (list(names[0]), names[1], names[2])):
                    before = copy.deepcopy(form)
                    self.assertEqual(undone(form), right)
                    self.assertEqual(form, before)
                self.assertEqual(undone(right), names)

    def test_one_after_another(self):
        rng = random.Random(78)
        for n in (1, 2, 3, 5, 12, 13, 40):
            for first, second in ((some_names(n, rng), some_names(n, rng)), (same_names(n), some_names(n, rng))):
                right = tuple(tuple(second[at][first[at][k]] for k in range(n)) for at in range(3))
                for form, other in ((first, second), ([list(own) for own in first], list(second)),
                                    (list(first), [list(own) for own in second])):
                    before = copy.deepcopy((form, other))
                    self.assertEqual(one_after_another(form, other), right)
                    self.assertEqual((form, other), before)
                self.assertEqual(one_after_another(first, undone(first)), same_names(n))
                self.assertEqual(one_after_another(undone(first), first), same_names(n))

    def test_renamed_one_after_another(self):
        rng = random.Random(79)
        for tree in UP_TO_TWELVE:
            n = order(tree)
            first, second = some_names(n, rng), some_names(n, rng)
            between = renamed(tree, first)
            self.assertEqual(renamed(between, second), renamed(tree, one_after_another(first, second)))
            self.assertEqual(renamed(between, undone(first)), ("listed", naive.rows_of(tree)))

    def test_standard_form_of_small_ones_wholly(self):
        for n in (1, 2, 3, 4):
            for rows in naive.all_squares(n):
                right, names = naive_likenesses.standard(rows)
                tree = ("listed", [list(row) for row in rows])
                self.assertEqual(standard(tree), ("listed", right))
                self.assertEqual(standard_names(tree), names)
                self.assertIs(is_standard(tree), right == rows)

    def test_standard_form_of_all_kinds(self):
        rng = random.Random(80)
        for tree in UP_TO_TWELVE:
            before = copy.deepcopy(tree)
            n = order(tree)
            names, right = standard_names(tree), standard(tree)
            self.assertEqual(tree, before)
            self.assertEqual((names[1], names[0][0]), (tuple(range(n)), 0))
            self.assertEqual(right, ("listed", naive_likenesses.led(naive.rows_of(tree), names)))
            self.assertEqual(right[1][0], tuple(range(n)))
            self.assertEqual([row[0] for row in right[1]], list(range(n)))
            self.assertEqual(is_standard(tree), right[1] == naive.rows_of(tree))
            self.assertIs(is_standard(right), True)
            self.assertEqual(standard(right), right)
            self.assertEqual(standard_names(right), same_names(n))
            # Names which leave the columns and the row 0 lead to the same standard form.
            rows, _, signs = some_names(n, rng)
            rows = (0,) + tuple(name for name in rows if name)
            other = renamed(tree, (rows, tuple(range(n)), signs))
            self.assertEqual(standard(other), right)
            self.assertIs(same_standard(tree, other), True)
            self.assertIs(same_standard(other, tree), True)

    def test_first_row_or_first_column_alone_in_order(self):
        self.assertIs(is_standard(("listed", ((0, 1, 2), (2, 0, 1), (1, 2, 0)))), False)
        self.assertIs(is_standard(("listed", ((0, 2, 1), (1, 0, 2), (2, 1, 0)))), False)
        self.assertIs(is_standard(("listed", [[0, 1, 2], [1, 2, 0], [2, 0, 1]])), True)
        self.assertIs(is_standard(("listed", [[0]])), True)
        self.assertIs(is_standard(("sum", 12, 1, 1)), True)
        self.assertIs(is_standard(("sum", 5, 1, 2)), False)

    def test_same_standard_exactly_by_such_names(self):
        for n in (1, 2, 3):
            squares = naive.all_squares(n)
            for one, other in product(squares, repeat=2):
                right = any(
                    naive_likenesses.led(one, ((0,) + rows, tuple(range(n)), signs)) == other
                    for rows in permutations(range(1, n)) for signs in permutations(range(n)))
                self.assertIs(same_standard(("listed", one), ("listed", other)), right)
        four = naive.all_squares(4)
        for one, other in product(four[::31], four[::7]):
            right = naive_likenesses.standard(one)[0] == naive_likenesses.standard(other)[0]
            self.assertIs(same_standard(("listed", one), ("listed", other)), right)

    def test_same_standard_of_unlike_orders(self):
        for one, other in ((("sum", 3, 1, 1), ("sum", 4, 1, 1)), (THREE, SKEW), (("sum", 1, 1, 1), ("sum", 2, 1, 1))):
            self.assertIs(same_standard(one, other), False)
            self.assertIs(same_standard(other, one), False)

    def test_mates_stay_mates(self):
        rng = random.Random(81)
        for one, other in MATES:
            rows, columns, signs = some_names(len(one), rng)
            own = renamed(("listed", one), (rows, columns, signs))[1]
            mate = renamed(("listed", other), (rows, columns, some_names(len(one), rng)[2]))[1]
            self.assertIs(are_mates(own, mate), True)

    def test_no_squares_come_first(self):
        good = ("sum", 3, 1, 1)
        for tree in NO_TREES:
            for names in (same_names(3), None, NO_NAMES[-4]):
                self.fault(InvalidSquare, renamed, tree, names)
            for function in (standard, standard_names, is_standard):
                self.fault(InvalidSquare, function, tree)
            for other in (good, GREATER[0], ()):
                self.fault(InvalidSquare, same_standard, tree, other)
            self.fault(InvalidSquare, same_standard, good, tree)

    def test_orders_above_twelve(self):
        for tree in GREATER:
            for names in (same_names(13), same_names(3), None):
                self.fault(InvalidQuestion, renamed, tree, names)
            for function in (standard, standard_names, is_standard):
                self.fault(InvalidQuestion, function, tree)
            # Both errors of the first square come ahead of both of the second one.
            for other in (("sum", 3, 1, 1), (), ("sum", 4, 2, 1), tree):
                self.fault(InvalidQuestion, same_standard, tree, other)
            self.fault(InvalidQuestion, same_standard, ("sum", 3, 1, 1), tree)
        for tree in (("sum", 12, 1, 5), ("product", SKEW, THREE)):
            self.assertEqual(standard(tree)[1][0], tuple(range(12)))

    def test_no_names(self):
        for names in NO_NAMES:
            self.fault(InvalidQuestion, undone, names)
            self.fault(InvalidQuestion, one_after_another, names, names)
            for good in (same_names(1), same_names(2), same_names(3)):
                self.fault(InvalidQuestion, one_after_another, names, good)
                self.fault(InvalidQuestion, one_after_another, good, names)
            for tree in (("sum", 1, 1, 1), ("sum", 2, 1, 1), ("sum", 3, 1, 1), SKEW):
                self.fault(InvalidQuestion, renamed, tree, names)

    def test_names_of_another_order(self):
        for n, m in product((1, 2, 3, 4, 12, 13), repeat=2):
            if n != m:
                self.fault(InvalidQuestion, one_after_another, same_names(n), same_names(m))
                if n < 13:
                    self.fault(InvalidQuestion, renamed, ("sum", n, 1, 1), same_names(m))

    def test_interface(self):
        for name in ("renamed", "undone", "one_after_another", "standard", "standard_names", "is_standard",
                     "same_standard"):
            self.assertEqual(getattr(module, name).__module__, "matedsquares.renaming")


if __name__ == "__main__":
    unittest.main()
