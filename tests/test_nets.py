"""Nets: points 94, 95 and 102."""

import copy
import random
import unittest

from matedsquares import nets as module
from matedsquares.errors import InvalidQuestion, InvalidSquare
from matedsquares.nets import net_fault, net_of, squares_of_net
from matedsquares.squares import table
from tests import naive, naive_codes
from tests.cases import Case
from tests.test_arrays import NO_FAMILIES, ORDERS
from tests.test_judged import FAMILIES


def grid(n):
    """The net of two classes: rows and columns."""
    return [[[n * r + c for c in range(n)] for r in range(n)], [[n * r + c for r in range(n)] for c in range(n)]]


def forms_of(classes):
    """A net told by lists and by tuples."""
    return (
        classes, [[list(line) for line in lines] for lines in classes],
        tuple(tuple(tuple(line) for line in lines) for lines in classes),
        [tuple(list(line) for line in lines) for lines in classes],
    )


class NetsTest(Case):
    def compared(self, n, classes):
        """Compare what is told of classes with a slow and plain way."""
        right = naive_codes.net_fault(classes)
        for form in forms_of(classes):
            before = copy.deepcopy(form)
            self.assertEqual(net_fault(n, form), right)
            if right is None:
                self.assertEqual(squares_of_net(n, form), naive_codes.squares_of_net(n, classes))
            else:
                self.fault(InvalidQuestion, squares_of_net, n, form)
            self.assertEqual(form, before)
        return right

    def test_example(self):
        self.assertEqual(net_of([[(0, 1), (1, 0)]]), [[(0, 1), (2, 3)], [(0, 2), (1, 3)], [(0, 3), (1, 2)]])

    def test_there_and_back(self):
        for squares in FAMILIES:
            n = len(squares[0])
            for form in (squares, tuple(squares), [[list(row) for row in rows] for rows in squares]):
                before = copy.deepcopy(form)
                classes = net_of(form)
                self.assertEqual(form, before)
                self.assertEqual(classes, naive_codes.net(squares))
                self.assertTrue(isinstance(classes, list) and all(isinstance(lines, list) for lines in classes))
                self.assertTrue(all(isinstance(line, tuple) for lines in classes for line in lines))
            self.assertIsNone(self.compared(n, classes))
            found = squares_of_net(n, classes)
            self.assertEqual(found, list(squares))
            for own in found:
                self.assertTrue(isinstance(own, tuple) and all(isinstance(row, tuple) for row in own))

    def test_any_order_of_points_lines_and_classes(self):
        rng = random.Random(95)
        for squares in FAMILIES:
            n = len(squares[0])
            for _ in range(4):
                classes = [[rng.sample(line, n) for line in lines] for lines in net_of(squares)]
                self.assertEqual(squares_of_net(n, classes), list(squares))
                classes = [rng.sample(lines, n) for lines in rng.sample(classes, len(classes))]
                names = rng.sample(range(n * n), n * n)
                classes = [[[names[point] for point in line] for line in lines] for lines in classes]
                self.assertIsNone(self.compared(n, classes))
                found = squares_of_net(n, classes)
                self.assertEqual(len(found), len(squares))
                self.assertTrue(all(naive.is_square(rows) for rows in found))

    def test_two_classes(self):
        for n in (1, 2, 3, 12):
            self.assertIsNone(net_fault(n, grid(n)))
            self.assertEqual(squares_of_net(n, grid(n)), [])

    def test_order_one(self):
        for count in range(2, 20):
            self.assertIsNone(net_fault(1, [[[0]]] * count))
            self.assertEqual(squares_of_net(1, [[[0]]] * count), [((0,),)] * (count - 2))
        self.assertEqual(net_of([((0,),)] * 3), [[(0,)]] * 5)

    def test_faults_by_hand(self):
        rows, columns = grid(2)
        self.assertEqual(net_fault(2, [rows, rows]), (0, 0, 1, 0))
        self.assertEqual(net_fault(2, [rows, rows[::-1]]), (0, 0, 1, 1))
        self.assertEqual(net_fault(2, [rows, columns, columns]), (1, 0, 2, 0))
        self.assertEqual(net_fault(2, [rows, columns, columns[::-1], rows]), (0, 0, 3, 0))
        rows, columns = grid(3)
        # The lines 1 and 2 of the second class have two points each with lines of the first one.
        self.assertEqual(net_fault(3, [rows, [[0, 3, 6], [1, 4, 5], [2, 7, 8]]]), (0, 1, 1, 1))
        self.assertEqual(net_fault(3, [rows, [[0, 3, 6], [2, 7, 8], [1, 4, 5]]]), (0, 1, 1, 2))
        self.assertEqual(net_fault(3, [rows, [[2, 7, 8], [4, 5, 1], [0, 3, 6]]]), (0, 1, 1, 1))
        # Of the lines of the first class the least one, then of those of the second class.
        self.assertEqual(net_fault(4, [grid(4)[0], [[14, 15, 2, 3], [8, 9, 12, 13], [0, 1, 4, 5], [6, 7, 10, 11]]]),
                         (0, 0, 1, 0))
        self.assertEqual(net_fault(4, [grid(4)[0], [[14, 15, 10, 11], [8, 9, 2, 3], [0, 1, 4, 5], [6, 7, 12, 13]]]),
                         (0, 0, 1, 1))

    def test_points_exchanged(self):
        rng = random.Random(96)
        for squares in FAMILIES[2:]:
            n = len(squares[0])
            if n == 1:
                continue
            for _ in range(5):
                classes = [[list(line) for line in lines] for lines in net_of(squares)]
                lines = rng.choice(classes)
                (one, other), at, to = rng.sample(range(n), 2), rng.randrange(n), rng.randrange(n)
                lines[one][at], lines[other][to] = lines[other][to], lines[one][at]
                self.assertIsNotNone(self.compared(n, classes))

    def test_any_classes(self):
        rng = random.Random(97)
        seen = set()
        for _ in range(300):
            n = rng.choice([2, 2, 3, 4])
            classes = grid(n)[:rng.choice([0, 2, 2])]
            while len(classes) < rng.choice([2, 3, 4, 5]):
                points = rng.sample(range(n * n), n * n)
                classes.append([points[n * at:n * at + n] for at in range(n)])
            rng.shuffle(classes)
            right = self.compared(n, classes)
            seen.add(right and (right[0], right[2]))
        self.assertLessEqual({None, (0, 1), (0, 2), (1, 2), (0, 3)}, seen)

    def test_other_orders(self):
        for order in ORDERS + (None, "2"):
            for classes in (grid(1), grid(2), [], grid(13)):
                for function in (net_fault, squares_of_net):
                    self.fault(InvalidQuestion, function, order, classes)

    def test_wrong_classes(self):
        rows, columns = grid(3)
        wrong = [[], (), [rows], (columns,), None, 5, "01", {0: rows, 1: columns}]
        for lines in ([], (), rows[:2], rows + rows[:1], rows + [[]], None, 5, "012", [0, 1, 2], [[]] * 3, [None] * 3,
                      rows[:2] + [rows[2][:2]], rows[:2] + [rows[2] + [0]], rows[:2] + [[6, 7, 7]],
                      rows[:2] + [[6, 7, 9]], rows[:2] + [[6, 7, -1]], rows[:2] + [[6, 7, 5]], rows[:2] + [rows[1]],
                      rows[:2] + ["678"], rows[:2] + [[6, 7, "8"]], rows[:2] + [[6, 7, None]], rows[:2] + [6],
                      [[0, 1, 2, 3], [4, 5], [6, 7, 8]], [[0, 1, 2, 3, 4, 5, 6, 7, 8]], grid(2)[0], grid(4)[0]):
            wrong += [[rows, lines], [lines, rows], [rows, columns, lines], [lines, lines], [lines]]
        for classes in wrong:
            for function in (net_fault, squares_of_net):
                self.fault(InvalidQuestion, function, 3, classes)
        for order in (1, 2, 4, 9, 12):
            for function in (net_fault, squares_of_net):
                self.fault(InvalidQuestion, function, order, [rows, columns])

    def test_no_families(self):
        for squares, error in NO_FAMILIES:
            self.fault(error, net_of, squares)

    def test_nets_of_squares_that_are_no_mates(self):
        for squares, error in NO_FAMILIES:
            if error is InvalidQuestion:
                right = self.compared(len(squares[0]), naive_codes.net(squares))
                self.assertGreater(right[0], 1)

    def test_new_lists(self):
        classes = net_of(FAMILIES[4])
        classes[0].clear()
        classes.pop()
        self.assertEqual([len(lines) for lines in net_of(FAMILIES[4])], [3] * 4)
        squares_of_net(3, net_of(FAMILIES[4])).clear()
        self.assertEqual(len(squares_of_net(3, net_of(FAMILIES[4]))), 2)
        self.assertEqual(squares_of_net(12, net_of([table(("sum", 12, 1, 1))])), [table(("sum", 12, 1, 1))])

    def test_interface(self):
        for name in ("net_of", "net_fault", "squares_of_net"):
            self.assertEqual(getattr(module, name).__module__, "matedsquares.nets")


if __name__ == "__main__":
    unittest.main()
