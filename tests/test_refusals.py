"""Refusals: points 37 to 41."""

import copy
import random
import unittest
from itertools import product

from matedsquares import refusals as module
from matedsquares.errors import InvalidSquare, TooMany
from matedsquares.mates import mate
from matedsquares.refusals import check_no_mate, none_paper
from matedsquares.squares import table
from tests import naive, naive_papers
from tests.test_mates import WITHOUT_MATE
from tests.test_squares import NO_LISTED, SKEW, THREE

RNG = random.Random(20)
TWOS = [((0, 1), (1, 0)), ((1, 0), (0, 1))]
FIVE = WITHOUT_MATE[-1]
SQUARES = [((0,),)] + TWOS + naive.all_squares(3) + naive.all_squares(4)[::23] + [
    SKEW[1], THREE[1], table(("field", 2, 2, 3)), table(("sum", 5, 1, 1)), table(("sum", 5, 2, 3)),
    FIVE, tuple(zip(*FIVE)), FIVE[::-1], tuple(row[::-1] for row in FIVE),
    naive.switched_often(table(("sum", 5, 1, 1)), RNG), naive.switched_often(FIVE, RNG),
    table(("sum", 6, 1, 1)), table(("sum", 6, 5, 1)),
] + [naive.switched_often(table(("sum", 6, 1, 1)), RNG) for _ in range(6)]
GREATER_WITH_MATE = [table(("sum", 7, 1, 1)), table(("sum", 7, 3, 2))] + [
    naive.switched_often(table(("sum", 7, 1, 1)), RNG) for _ in range(4)]
RIGHT = [(rows, naive_papers.paper(rows)) for rows in SQUARES + GREATER_WITH_MATE]
REFUSED = [(rows, paper) for rows, (paper, _) in RIGHT if paper]


class NonePaperTest(unittest.TestCase):
    def refused(self, rows, limit):
        with self.assertRaises(TooMany) as caught:
            none_paper(rows, limit=limit)
        self.assertEqual(caught.exception.limit, limit)

    def test_example(self):
        self.assertEqual(none_paper([(0, 1), (1, 0)]), [("cell", 1, 0)])

    def test_the_very_list(self):
        for rows, (right, _) in RIGHT:
            before = [list(row) for row in rows]
            found = none_paper(before)
            self.assertEqual(found, right)
            self.assertEqual(before, [list(row) for row in rows])
            self.assertEqual(found is None, mate(rows) is not None)
            if found is not None:
                self.assertIsInstance(found, list)
                self.assertTrue(all(isinstance(question, tuple) for question in found))
        orders = {len(rows) for rows, _ in REFUSED}
        self.assertEqual(orders, {2, 4, 5, 6})
        self.assertEqual({len(rows) for rows in SQUARES}, {1, 2, 3, 4, 5, 6})

    def test_all_squares_of_order_four(self):
        for rows in naive.all_squares(4)[::7]:
            self.assertEqual(none_paper(rows), naive_papers.paper(rows)[0])

    def test_limits_just_met_and_just_exceeded(self):
        for rows, (right, taken) in RIGHT:
            self.assertEqual(none_paper(rows, limit=taken), right)
            self.assertEqual(none_paper(rows, limit=taken + 1), right)
            for limit in {taken - 1, taken // 2, 0} - {-1, taken}:
                self.refused(rows, limit)

    def test_questions_behind_wrong_answers_count_where_there_is_a_mate(self):
        counts = [taken for rows, (right, taken) in RIGHT if right is None and len(rows) == 7]
        self.assertTrue(any(taken > 42 for taken in counts), counts)

    def test_limits_by_hand(self):
        # All of the mate is given at first.
        self.assertIsNone(none_paper([[0]], limit=0))
        self.refused([[0, 1], [1, 0]], 0)
        self.assertEqual(none_paper([[0, 1], [1, 0]], limit=1), [("cell", 1, 0)])
        # Each of the six cells below the first row is told at once.
        self.assertIsNone(none_paper(table(("sum", 3, 1, 1)), limit=6))
        self.refused(table(("sum", 3, 1, 1)), 5)

    def test_limit_of_20000_where_none_is_told(self):
        with self.assertRaises(TooMany) as caught:
            none_paper(table(("sum", 12, 1, 1)))
        self.assertEqual(caught.exception.limit, 20000)
        paper = none_paper(table(("sum", 8, 1, 1)))
        self.assertIs(check_no_mate(table(("sum", 8, 1, 1)), paper), True)

    def test_no_squares_come_first(self):
        for rows in NO_LISTED:
            for call in (lambda: none_paper(rows), lambda: none_paper(rows, limit=0),
                         lambda: check_no_mate(rows, []), lambda: check_no_mate(rows, [("cell", 1, 0)])):
                with self.assertRaises(InvalidSquare):
                    call()

    def test_interface(self):
        for name in ("none_paper", "check_no_mate"):
            self.assertEqual(getattr(module, name).__module__, "matedsquares.refusals")
        with self.assertRaises(TypeError):
            none_paper(((0,),), 5)


class CheckTest(unittest.TestCase):
    def test_right_ones(self):
        for rows, paper in REFUSED:
            before = copy.deepcopy(paper)
            self.assertIs(check_no_mate(rows, paper), True)
            self.assertIs(check_no_mate([list(row) for row in rows], [list(own) for own in paper]), True)
            self.assertEqual(paper, before)

    def test_right_ones_with_other_questions(self):
        rng = random.Random(5)
        for rows, _ in REFUSED:
            if len(rows) < 6:
                for choose in (lambda choices: min(choices[::-1], key=lambda one: len(one[1])),
                               lambda choices: rng.choice(naive_papers.easy(choices))):
                    paper, _ = naive_papers.paper(rows, choose)
                    self.assertIs(check_no_mate(rows, paper), True)

    def wrong(self, rows, paper):
        self.assertIs(check_no_mate(rows, paper), False, (rows, paper))

    def test_left_out_doubled_behind(self):
        for rows, paper in REFUSED[::2]:
            for at in range(len(paper)):
                self.wrong(rows, paper[:at])
                self.compared(rows, paper[:at] + paper[at + 1:])
                self.compared(rows, paper[:at] + paper[at:at + 1] + paper[at:])
            for behind in (paper[:1], paper[-1:], [("cell", 0, 0)], paper, [("cell", 1, 1)], [5]):
                self.wrong(rows, paper + behind)
            self.wrong(rows, [])

    def compared(self, rows, paper):
        self.assertIs(check_no_mate(rows, paper), naive_papers.is_right(rows, paper), (rows, paper))

    def test_changed_and_exchanged(self):
        rng = random.Random(6)
        for rows, paper in REFUSED[::2]:
            n = len(rows)
            for _ in range(12):
                wrong = list(paper)
                at = rng.randrange(len(paper))
                wrong[at] = (rng.choice(naive_papers.KINDS), rng.randrange(n), rng.randrange(n))
                self.compared(rows, wrong)
                one, other = rng.randrange(len(paper)), rng.randrange(len(paper))
                wrong = list(paper)
                wrong[one], wrong[other] = wrong[other], wrong[one]
                self.compared(rows, wrong)

    def test_all_single_questions_of_small_ones(self):
        for rows in TWOS + [SKEW[1], table(("sum", 3, 1, 1)), FIVE]:
            n = len(rows)
            for kind, a, b in product(naive_papers.KINDS, range(-1, n + 1), range(-1, n + 1)):
                self.compared(rows, [(kind, a, b)])
        self.assertIs(check_no_mate(TWOS[0], [("sign", 0, 1)]), True)

    def test_all_papers_of_two_questions(self):
        for rows in TWOS + [table(("sum", 3, 1, 1))]:
            n = len(rows)
            questions = list(product(naive_papers.KINDS, range(n), range(n)))
            for pair in product(questions, questions):
                self.compared(rows, list(pair))

    def test_papers_of_other_squares(self):
        for rows, _ in RIGHT:
            for _, paper in REFUSED[::5]:
                if len(rows) < 6:
                    self.compared(rows, paper)
        for rows, (right, _) in RIGHT:
            if right is None:
                for _, paper in REFUSED[::9]:
                    self.wrong(rows, paper)

    def test_no_questions(self):
        for rows in (TWOS[0], SKEW[1]):
            good = none_paper(rows)
            self.assertIs(check_no_mate(rows, good), True)
            for question in (
                    None, 5, "cell", (), ("cell",), ("cell", 1), ("cell", 1, 0, 0), ("Cell", 1, 0),
                    ("", 1, 0), ("square", 1, 0), (None, 1, 0), (0, 1, 0), (["cell"], 1, 0),
                    ("cell", 1, None), ("cell", "1", "0"), ("cell", -1, 0), ("cell", 1, -1),
                    ("cell", len(rows), 0), ("cell", 1, len(rows)), ("cell", 10 ** 30, 0),
                    ("row", -1, 0), ("column", 0, 99), ("sign", 99, 0), ("sign", 0, -1), ("cell", 0, 0)):
                self.wrong(rows, [question])
                self.wrong(rows, [question, *good])
                self.wrong(rows, [question, *good[1:]])
                self.wrong(rows, [*good[:-1], question])
                self.wrong(rows, [*good, question])

    def test_order_one_has_no_open_question(self):
        for kind in naive_papers.KINDS:
            self.wrong([[0]], [(kind, 0, 0)])
        self.wrong([[0]], [])

    def test_no_search(self):
        # A search would come to far more questions than this paper has.
        rows = table(("sum", 12, 1, 1))
        self.wrong(rows, [("cell", 1, 0)])
        self.wrong(rows, [("cell", 1, 0)] * 1000)


if __name__ == "__main__":
    unittest.main()
