"""Likenesses: points 81 to 84, 90 and 91."""

import copy
import random
import unittest
from itertools import permutations, product

from matedsquares import likenesses as module
from matedsquares.errors import InvalidQuestion, InvalidSquare, TooMany
from matedsquares.likenesses import are_alike, is_likeness, led, likeness, likeness_count, likenesses
from matedsquares.squares import listed, order
from tests import naive, naive_likenesses
from tests.cases import Case
from tests.test_mates import WITHOUT_MATE
from tests.test_renaming import GREATER, NO_NAMES, UP_TO_TWELVE, same_names, some_names
from tests.test_squares import NO_TREES, SKEW, THREE

# Squares of groups have n * n likenesses for each map of the group that goes over sums.
GROUPS = [
    (("sum", 1, 1, 1), 1), (("sum", 2, 1, 1), 4), (("sum", 3, 2, 1), 18), (("sum", 4, 1, 1), 32),
    (("field", 2, 2, 3), 96), (("sum", 5, 1, 3), 100), (("sum", 6, 1, 5), 72), (("sum", 7, 1, 1), 294),
    (("field", 7, 1, 3), 294), (("sum", 8, 3, 1), 256), (("product", ("sum", 2, 1, 1), ("sum", 4, 1, 1)), 512),
    (("sum", 9, 1, 2), 486), (("field", 3, 2, 5), 3888), (("field", 2, 3, 6), 10752), (("sum", 11, 1, 7), 1210),
    (("sum", 12, 1, 1), 576), (("product", ("field", 2, 2, 1), ("sum", 3, 1, 1)), 1728),
]
# Two squares that are not told by a sum.
SIX = naive.switched_often(naive.rows_of(("sum", 6, 1, 1)), random.Random(6))
OTHER_SIX = naive.switched_often(naive.rows_of(("sum", 6, 1, 1)), random.Random(8))


def turned_by(rows, maps):
    return ("listed", naive_likenesses.led(rows, maps))


class LikenessesTest(Case):
    def compared(self, one, other):
        """Compare all answers about two small squares with those of a slow and plain way."""
        right = naive_likenesses.likenesses(one, other)
        one, other = ("listed", one), ("listed", [list(row) for row in other])
        before = copy.deepcopy((one, other))
        self.assertEqual(likenesses(one, other), sorted(right))
        self.assertEqual(likeness_count(one, other), len(right))
        self.assertEqual(likeness(one, other), min(right) if right else None)
        self.assertIs(are_alike(one, other), bool(right))
        self.assertEqual((one, other), before)
        return right

    def test_examples(self):
        self.assertEqual(led(("sum", 3, 1, 1), ((1, 0, 2), (0, 1, 2), (0, 1, 2))), ((1, 2, 0), (0, 1, 2), (2, 0, 1)))
        self.assertEqual(likeness(("sum", 2, 1, 1), ("listed", ((1, 0), (0, 1)))), ((0, 1), (0, 1), (1, 0)))
        self.assertEqual(likeness_count(("sum", 3, 1, 1), ("sum", 3, 2, 1)), 18)

    def test_order_one(self):
        one, other = ("sum", 1, 1, 1), ("listed", [[0]])
        self.assertEqual(likenesses(one, other), [((0,), (0,), (0,))])
        self.assertEqual((likeness_count(one, one), likeness(other, one)), (1, ((0,), (0,), (0,))))
        self.assertIs(is_likeness(one, other, ([0], [0], [0])), True)
        self.assertEqual(led(one, ([0], (0,), [0])), ((0,),))
        self.assertEqual(likeness_count(one, other, limit=1), 1)
        self.assertEqual(self.fault(TooMany, likeness_count, one, other, limit=0).limit, 0)

    def test_small_ones(self):
        for n in (1, 2, 3):
            for one, other in product(naive.all_squares(n), repeat=2):
                self.compared(one, other)
        four = naive.all_squares(4)
        kinds = {bool(self.compared(one, other)) for one, other in product(four[::97], four[5::61])}
        self.assertEqual(kinds, {True, False})

    def test_order_five(self):
        rng = random.Random(83)
        five = WITHOUT_MATE[-1]
        squares = [naive.rows_of(("sum", 5, 1, 2)), five, naive.switched_often(five, rng)]
        kinds = {bool(self.compared(one, other)) for one, other in product(squares, repeat=2)}
        self.assertEqual(kinds, {True, False})

    def test_squares_of_groups(self):
        rng = random.Random(84)
        for tree, count in GROUPS:
            rows = naive.rows_of(tree)
            other = turned_by(rows, some_names(len(rows), rng))
            self.assertEqual(likeness_count(tree, tree, limit=count), count)
            self.assertEqual(likeness_count(tree, other, limit=count), count)
            self.assertEqual(likeness_count(other, tree, limit=20000), count)

    def test_lists_of_likenesses_of_greater_ones(self):
        rng = random.Random(85)
        for tree in UP_TO_TWELVE[::5] + [("listed", SIX), ("listed", OTHER_SIX), UP_TO_TWELVE[-1]]:
            rows = naive.rows_of(tree)
            n = len(rows)
            maps = some_names(n, rng)
            other = turned_by(rows, maps)
            found = likenesses(tree, other, limit=20000)
            self.assertIsInstance(found, list)
            self.assertEqual(found, sorted(set(found)))
            self.assertIn(maps, found)
            self.assertEqual(likeness(tree, other), found[0])
            self.assertIs(are_alike(tree, other), True)
            self.assertEqual(len(likenesses(tree, tree, limit=20000)), len(found))
            self.assertIn(same_names(n), likenesses(tree, tree, limit=20000))
            for one in found[::len(found) // 20 + 1]:
                self.assertTrue(isinstance(one, tuple) and all(isinstance(own, tuple) for own in one))
                self.assertEqual(naive_likenesses.led(rows, one), other[1])
                self.assertIs(is_likeness(tree, other, one), True)
                self.assertEqual(led(tree, one), other[1])

    def test_squares_that_are_not_alike(self):
        rng = random.Random(86)
        groups = [[tree for tree, _ in GROUPS if order(tree) == n] for n in (4, 8, 9, 12)]
        pairs = [(one, other) for trees in groups for one, other in permutations(trees, 2)]
        pairs += [(("sum", 6, 1, 1), ("listed", OTHER_SIX)), (("field", 2, 2, 1), SKEW)]
        for one, other in pairs:
            alike = naive_likenesses.counts(naive.rows_of(one)) == naive_likenesses.counts(naive.rows_of(other))
            if alike:
                continue
            other = turned_by(naive.rows_of(other), some_names(order(other), rng))
            self.assertIs(are_alike(one, other), False)
            self.assertIsNone(likeness(one, other))
            self.assertEqual(likenesses(one, other, limit=0), [])
            self.assertEqual(likeness_count(one, other, limit=0), 0)
            self.assertIs(is_likeness(one, other, same_names(order(one))), False)

    def test_one_exchange_in_a_great_square(self):
        tree = ("product", ("field", 2, 2, 1), ("sum", 3, 1, 1))
        rows = [list(row) for row in naive.rows_of(tree)]
        two_rows, two_columns = naive_likenesses.all_twos(rows)[7]
        for r in two_rows:
            one, other = two_columns
            rows[r][one], rows[r][other] = rows[r][other], rows[r][one]
        self.assertIs(are_alike(tree, ("listed", rows)), False)
        self.assertIs(are_alike(("listed", rows), tree), False)
        maps = some_names(12, random.Random(1))
        self.assertIn(maps, likenesses(("listed", rows), turned_by(rows, maps)))

    def test_unlike_orders_are_no_error(self):
        for one, other in permutations((("sum", 1, 1, 1), ("sum", 2, 1, 1), THREE, SKEW, ("sum", 12, 1, 1)), 2):
            self.assertEqual(likenesses(one, other), [])
            self.assertEqual(likeness_count(one, other, limit=0), 0)
            self.assertIsNone(likeness(one, other))
            self.assertIs(are_alike(one, other), False)
            for maps in (same_names(order(one)), same_names(order(other))):
                self.assertIs(is_likeness(one, other, maps), False)

    def test_limits_just_met_and_just_exceeded(self):
        for tree, count in GROUPS:
            other = listed(tree)
            for function in (likenesses, likeness_count):
                function(tree, other, limit=count)
                for limit in {count - 1, count // 2, 0}:
                    self.assertEqual(self.fault(TooMany, function, tree, other, limit=limit).limit, limit)
            # These need no limit.
            self.assertIsNotNone(likeness(tree, other))
            self.assertIs(are_alike(tree, other), True)

    def test_limit_of_2000_where_none_is_told(self):
        for tree, count in GROUPS[-6:]:
            for function in (likenesses, likeness_count):
                if count > 2000:
                    self.assertEqual(self.fault(TooMany, function, tree, tree).limit, 2000)
                else:
                    function(tree, tree)

    def test_is_likeness(self):
        for n in (1, 2, 3):
            for one, other in product(naive.all_squares(n)[::5], naive.all_squares(n)[::2]):
                for maps in product(permutations(range(n)), repeat=3):
                    right = naive_likenesses.led(one, maps) == other
                    self.assertIs(is_likeness(("listed", one), ("listed", other), maps), right)
                    self.assertIs(is_likeness(("listed", one), ("listed", other), [list(own) for own in maps]), right)

    def test_no_maps(self):
        for maps in NO_NAMES:
            for tree in (("sum", 1, 1, 1), ("sum", 2, 1, 1), ("sum", 3, 1, 1), SKEW):
                self.assertIs(is_likeness(tree, tree, maps), False)
                self.fault(InvalidQuestion, led, tree, maps)
        for n, m in permutations((1, 2, 3, 12, 13), 2):
            if n < 13:
                self.assertIs(is_likeness(("sum", n, 1, 1), ("sum", n, 1, 1), same_names(m)), False)
                self.fault(InvalidQuestion, led, ("sum", n, 1, 1), same_names(m))

    def test_led(self):
        rng = random.Random(87)
        for tree in UP_TO_TWELVE:
            maps = some_names(order(tree), rng)
            right = naive_likenesses.led(naive.rows_of(tree), maps)
            for form in (maps, [list(own) for own in maps], (list(maps[0]), maps[1], maps[2])):
                before = copy.deepcopy(form)
                self.assertEqual(led(tree, form), right)
                self.assertEqual(form, before)
            self.assertEqual(led(tree, same_names(order(tree))), naive.rows_of(tree))

    def test_one_likeness_and_then_another_one(self):
        rng = random.Random(88)
        one = ("listed", SIX)
        first, second = some_names(6, rng), some_names(6, rng)
        other = ("listed", led(one, first))
        third = ("listed", led(other, second))
        both = tuple(tuple(second[at][first[at][k]] for k in range(6)) for at in range(3))
        back = tuple(tuple(first[at].index(k) for k in range(6)) for at in range(3))
        self.assertIs(is_likeness(one, third, both), True)
        self.assertIs(is_likeness(other, one, back), True)
        self.assertEqual({likeness_count(*pair) for pair in product((one, other, third), repeat=2)},
                         {likeness_count(one, one)})

    def test_order_of_the_errors(self):
        good, great, wrong = ("sum", 3, 1, 1), GREATER[0], ("sum", 4, 2, 1)
        with_two = [(likenesses, {"limit": 0}), (likeness_count, {"limit": 0}), (likeness, {}), (are_alike, {})]
        for function, limits in with_two:
            for tree in NO_TREES[::3]:
                for other in (good, great, wrong):
                    self.fault(InvalidSquare, function, tree, other, **limits)
                self.fault(InvalidSquare, function, good, tree, **limits)
                self.fault(InvalidQuestion, function, great, tree, **limits)
            for tree in GREATER:
                self.fault(InvalidQuestion, function, tree, good, **limits)
                self.fault(InvalidQuestion, function, tree, tree, **limits)
                self.fault(InvalidQuestion, function, good, tree, **limits)
        for maps in (same_names(3), None, same_names(13), ()):
            for one, other, error in (
                    (wrong, great, InvalidSquare), (wrong, good, InvalidSquare), (great, wrong, InvalidQuestion),
                    (great, good, InvalidQuestion), (good, wrong, InvalidSquare), (good, great, InvalidQuestion)):
                self.fault(error, is_likeness, one, other, maps)
            for tree in NO_TREES[::3]:
                self.fault(InvalidSquare, led, tree, maps)
            for tree in GREATER:
                self.fault(InvalidQuestion, led, tree, maps)

    def test_new_lists(self):
        found = likenesses(THREE, THREE)
        found.clear()
        self.assertEqual(len(likenesses(THREE, THREE)), 18)

    def test_interface(self):
        for name in ("is_likeness", "likenesses", "likeness_count", "likeness", "are_alike", "led"):
            self.assertEqual(getattr(module, name).__module__, "matedsquares.likenesses")


if __name__ == "__main__":
    unittest.main()
