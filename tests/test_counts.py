"""Counts: points 81 and 85 to 91."""

import copy
import random
import unittest
from itertools import combinations, product

from matedsquares import counts as module
from matedsquares.counts import all_rounds, counts_of, rounds, shows_unlike, two_count, twos
from matedsquares.errors import InvalidQuestion, InvalidSquare
from matedsquares.likenesses import are_alike
from matedsquares.squares import order
from tests import naive, naive_likenesses
from tests.cases import Case
from tests.test_likenesses import OTHER_SIX, SIX
from tests.test_mates import WITHOUT_MATE
from tests.test_renaming import GREATER, UP_TO_TWELVE, some_names
from tests.test_squares import NO_TREES, SKEW, THREE, TWELVE, turned_often

WORDS = ("row", "column", "sign")
NO_WORDS = ("", "rows", "Row", "ROW", "columns", "signs", "cell", "row ", "r")
# One whose rows, columns and signs have unlike counts.
EIGHT = naive.switched_often(naive.rows_of(("sum", 8, 1, 1)), random.Random(0))
TREES = UP_TO_TWELVE + [("listed", EIGHT), ("listed", SIX), ("listed", OTHER_SIX), ("listed", WITHOUT_MATE[-1]),
                        turned_often(SKEW, 11)]


class CountsTest(Case):
    def test_examples(self):
        self.assertEqual(rounds(("sum", 4, 1, 1), "row", 0, 2), [2, 2])
        self.assertEqual(all_rounds(("sum", 4, 1, 1), "row"), [((2, 2), 2), ((4,), 4)])
        self.assertEqual(two_count(("field", 2, 2, 1)), 12)

    def test_order_one(self):
        for tree in (("sum", 1, 1, 1), ("listed", [[0]]), ("product", ("sum", 1, 1, 1), ("listed", [[0]]))):
            for word in WORDS:
                self.assertEqual(all_rounds(tree, word), [])
                self.fault(InvalidQuestion, rounds, tree, word, 0, 0)
                self.fault(InvalidQuestion, rounds, tree, word, 0, 1)
            self.assertEqual((twos(tree), two_count(tree)), (((0,),), 0))
            self.assertEqual(counts_of(tree), (1, (), (), ()))
            self.assertIs(shows_unlike(tree, tree), False)
            self.assertIs(shows_unlike(tree, ("sum", 2, 1, 1)), True)

    def test_rounds_by_hand(self):
        tree = ("listed", [[0, 1, 2, 3, 4], [1, 0, 3, 4, 2], [2, 3, 4, 0, 1], [3, 4, 1, 2, 0], [4, 2, 0, 1, 3]])
        self.assertEqual(rounds(tree, "row", 0, 1), [2, 3])
        self.assertEqual(rounds(tree, "row", 1, 0), [2, 3])
        self.assertEqual(rounds(tree, "row", 0, 2), [5])
        self.assertEqual(rounds(tree, "column", 0, 1), [2, 3])
        # The signs 0 and 1 stand in the rows 0 and 1 in the columns 0 and 1.
        self.assertEqual(rounds(tree, "sign", 1, 0), [2, 3])
        self.assertEqual(twos(tree)[0][0], 1)
        self.assertEqual(rounds(("sum", 12, 1, 1), "column", 0, 6), [2] * 6)
        self.assertEqual(rounds(("sum", 12, 5, 7), "sign", 3, 11), [3, 3, 3, 3])

    def test_rounds(self):
        for tree in TREES:
            rows = naive.rows_of(tree)
            before = copy.deepcopy(tree)
            pairs = list(combinations(range(len(rows)), 2))
            for word in WORDS:
                for one, other in pairs[::len(pairs) // 4 + 1]:
                    right = naive_likenesses.rounds(rows, word, one, other)
                    self.assertEqual(rounds(tree, word, one, other), right)
                    self.assertEqual(rounds(tree, word, other, one), right)
                    self.assertEqual((sum(right), min(right) > 1), (len(rows), True))
            self.assertEqual(tree, before)

    def test_rounds_of_all_pairs(self):
        for tree in (THREE, SKEW, TWELVE, ("listed", SIX), ("listed", OTHER_SIX), ("field", 2, 3, 5)):
            rows = naive.rows_of(tree)
            for word in WORDS:
                for one, other in product(range(len(rows)), repeat=2):
                    if one != other:
                        right = naive_likenesses.rounds(rows, word, one, other)
                        self.assertEqual(rounds(tree, word, one, other), right)

    def test_all_rounds(self):
        for tree in TREES:
            rows = naive.rows_of(tree)
            for word in WORDS:
                found = all_rounds(tree, word)
                self.assertEqual(found, naive_likenesses.all_rounds(rows, word))
                self.assertTrue(isinstance(found, list) and all(isinstance(one, tuple) for one in found))
                self.assertTrue(all(isinstance(lengths, tuple) for lengths, _ in found))
                self.assertEqual(found, sorted(found))
                self.assertEqual(sum(count for _, count in found), len(rows) * (len(rows) - 1) // 2)

    def test_twos(self):
        for tree in TREES:
            rows = naive.rows_of(tree)
            before = copy.deepcopy(tree)
            found = twos(tree)
            self.assertEqual(found, naive_likenesses.twos(rows))
            self.assertTrue(isinstance(found, tuple) and all(isinstance(row, tuple) for row in found))
            count = len(naive_likenesses.all_twos(rows))
            self.assertEqual(two_count(tree), count)
            self.assertEqual(tree, before)
            for word in WORDS:
                self.assertEqual(sum(lengths.count(2) * many for lengths, many in all_rounds(tree, word)), count)

    def test_small_ones_wholly(self):
        for n in (1, 2, 3, 4):
            for rows in naive.all_squares(n)[::n]:
                tree = ("listed", rows)
                self.assertEqual(counts_of(tree), naive_likenesses.counts(rows))
                self.assertEqual(twos(tree), naive_likenesses.twos(rows))

    def test_counts_of(self):
        rng = random.Random(88)
        for tree in TREES:
            rows = naive.rows_of(tree)
            found = counts_of(tree)
            self.assertEqual(found, naive_likenesses.counts(rows))
            self.assertTrue(isinstance(found, tuple) and all(isinstance(part, tuple) for part in found[1:]))
            other = ("listed", naive_likenesses.led(rows, some_names(len(rows), rng)))
            self.assertEqual(counts_of(other), found)
            self.assertIs(shows_unlike(tree, other), False)
            self.assertIs(shows_unlike(other, tree), False)

    def test_rows_columns_and_signs_in_order(self):
        tree = ("listed", EIGHT)
        rows, columns, signs = counts_of(tree)[1:]
        self.assertEqual(len({rows, columns, signs}), 3)
        self.assertEqual([tuple(all_rounds(tree, word)) for word in WORDS], [rows, columns, signs])
        self.assertEqual(counts_of(("turned", tree, (1, 0, 2)))[1:], (columns, rows, signs))
        self.assertEqual(counts_of(("turned", tree, (1, 2, 0)))[1:], (columns, signs, rows))
        self.assertEqual(counts_of(("turned", tree, (2, 1, 0)))[1:], (signs, columns, rows))

    def test_shows_unlike(self):
        chosen = TREES[::6] + TREES[-4:]
        seen = set()
        for one, other in product(chosen, repeat=2):
            right = naive_likenesses.counts(naive.rows_of(one)) != naive_likenesses.counts(naive.rows_of(other))
            self.assertIs(shows_unlike(one, other), right)
            if right:
                self.assertIs(are_alike(one, other), False)
            seen.add((right, order(one) == order(other)))
        self.assertEqual(seen, {(True, True), (True, False), (False, True)})

    def test_squares_that_are_alike_have_the_same_counts(self):
        rng = random.Random(90)
        for tree in (("listed", SIX), SKEW, ("listed", WITHOUT_MATE[-1]), ("product", ("sum", 2, 1, 1), THREE)):
            rows = naive.rows_of(tree)
            maps = some_names(len(rows), rng)
            other = naive_likenesses.led(rows, maps)
            for at, word in enumerate(WORDS):
                for one, two in combinations(range(len(rows)), 2):
                    self.assertEqual(rounds(tree, word, one, two),
                                     rounds(("listed", other), word, maps[at][one], maps[at][two]))
            own, led = twos(tree), twos(("listed", other))
            for r, c in product(range(len(rows)), repeat=2):
                self.assertEqual(own[r][c], led[maps[0][r]][maps[1][c]])

    def test_no_squares_and_too_great_orders(self):
        calls = [(rounds, word, one, other) for word in WORDS + NO_WORDS[:2] for one, other in ((0, 1), (0, 0), (-1, 99))]
        calls += [(all_rounds, "row"), (all_rounds, "rows"), (twos,), (two_count,), (counts_of,)]
        for function, *more in calls:
            for tree in NO_TREES[::4]:
                self.fault(InvalidSquare, function, tree, *more)
            for tree in GREATER:
                self.fault(InvalidQuestion, function, tree, *more)

    def test_both_errors_of_the_first_square_come_first(self):
        good, great, wrong = ("sum", 3, 1, 1), ("sum", 13, 1, 1), ("sum", 4, 2, 1)
        for one, other, error in (
                (wrong, great, InvalidSquare), (wrong, good, InvalidSquare), (great, wrong, InvalidQuestion),
                (great, good, InvalidQuestion), (good, wrong, InvalidSquare), (good, great, InvalidQuestion),
                (wrong, wrong, InvalidSquare), (great, great, InvalidQuestion)):
            self.fault(error, shows_unlike, one, other)

    def test_other_words(self):
        for word in NO_WORDS:
            for tree in (("sum", 1, 1, 1), SKEW, TWELVE):
                self.fault(InvalidQuestion, all_rounds, tree, word)
                self.fault(InvalidQuestion, rounds, tree, word, 0, 1)

    def test_numbers_out_of_the_order_and_one_twice(self):
        for tree in (THREE, SKEW, ("field", 2, 3, 3), TWELVE):
            n = order(tree)
            for word in WORDS:
                for wrong in (-1, -n, n, n + 1, 10 ** 31):
                    for pair in ((wrong, 0), (0, wrong), (wrong, wrong), (n - 1, wrong)):
                        self.fault(InvalidQuestion, rounds, tree, word, *pair)
                for one in range(n):
                    self.fault(InvalidQuestion, rounds, tree, word, one, one)
                self.assertEqual(sum(rounds(tree, word, n - 1, 0)), n)

    def test_new_lists(self):
        rounds(SKEW, "row", 0, 1).clear()
        all_rounds(SKEW, "row").clear()
        self.assertEqual(sum(rounds(SKEW, "row", 0, 1)), 4)
        self.assertEqual(sum(count for _, count in all_rounds(SKEW, "row")), 6)

    def test_interface(self):
        for name in ("rounds", "all_rounds", "twos", "two_count", "counts_of", "shows_unlike"):
            self.assertEqual(getattr(module, name).__module__, "matedsquares.counts")


if __name__ == "__main__":
    unittest.main()
