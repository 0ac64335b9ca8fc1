"""Elements of fields: points 19 to 25 and 27."""

import unittest

from matedsquares import elements
from matedsquares.elements import (
    conjugates, divided, generator, is_square, least_polynomial, norm, order_of, square_root, trace,
)
from matedsquares.errors import InvalidQuestion
from matedsquares.fields import added, inverse, less, power, product
from tests import naive
from tests.test_fields import GREAT, NO_FIELDS, some_members

SMALL = [(2, 1), (3, 1), (5, 1), (7, 1), (13, 1), (2, 2), (2, 3), (2, 4), (3, 2), (3, 3), (5, 2),
         (7, 2), (2, 6), (3, 4)]
UP_TO_A_MILLION = [(999983, 1), (786433, 1), (97, 2), (97, 3), (2, 12), (3, 12), (31, 4), (5, 8)]
TOO_GREAT = [(5, 9), (7, 8), (97, 4), (11, 6), (31, 5), (97, 7), (17, 12)]
ONE_ELEMENT = (order_of, conjugates, trace, norm, least_polynomial, is_square, square_root)


def value_at(p, k, lower, one):
    """The value of the polynomial with these lower coefficients at an element."""
    value = 1
    for coefficient in reversed(lower):
        value = added(p, k, product(p, k, value, one), coefficient)
    return value


class SmallFieldsTest(unittest.TestCase):
    """All elements, by the plain words of the points."""

    @classmethod
    def setUpClass(cls):
        cls.fields = [naive.NaiveField(p, k) for p, k in SMALL]

    def test_examples(self):
        self.assertEqual(
            (generator(3, 2), conjugates(2, 3, 2), trace(3, 2, 4), norm(3, 2, 4),
             least_polynomial(2, 2, 3), square_root(7, 1, 2)),
            (4, [2, 4, 6], 2, 2, (1, 1), 3))

    def order_by_words(self, field, one):
        times, reached = 1, one
        while reached != 1:
            times, reached = times + 1, field.product(reached, one)
        return times

    def test_orders_and_generators(self):
        for field in self.fields:
            p, k = field.p, field.k
            orders = {one: self.order_by_words(field, one) for one in range(1, field.size)}
            self.assertEqual({one: order_of(p, k, one) for one in orders}, orders)
            least = min(one for one in orders if orders[one] == field.size - 1)
            self.assertEqual(generator(p, k), least)
            self.assertTrue(all((field.size - 1) % times == 0 for times in orders.values()))

    def test_divided(self):
        for field in self.fields[:11]:
            for other in range(1, field.size):
                for one in range(field.size):
                    quotient = divided(field.p, field.k, one, other)
                    self.assertEqual(field.product(quotient, other), one)

    def test_conjugates_trace_norm_and_least_polynomial(self):
        for field in self.fields:
            p, k = field.p, field.k
            for one in range(field.size):
                powers = [one]
                for _ in range(k):
                    powers.append(field.power(powers[-1], p))
                self.assertEqual(powers.pop(), one)
                own = powers[:(powers + [one]).index(one, 1)]
                self.assertEqual(conjugates(p, k, one), own)
                self.assertEqual(k % len(own), 0)
                total, whole = 0, 1
                for reached in powers:
                    total, whole = field.added(total, reached), field.product(whole, reached)
                self.assertEqual((trace(p, k, one), norm(p, k, one)), (total, whole))
                self.assertTrue(total < p and whole < p)
                self.check_least_polynomial(field, one, len(own))

    def check_least_polynomial(self, field, one, degree):
        p, k = field.p, field.k
        lower = least_polynomial(p, k, one)
        self.assertIsInstance(lower, tuple)
        self.assertEqual(len(lower), degree)
        self.assertTrue(all(0 <= figure < p for figure in lower))
        self.assertEqual(value_at(p, k, lower, one), 0)
        if degree > 1:
            # It is the one of least degree if it has no factors.
            self.assertTrue(naive.is_irreducible_by_rank(p, lower))

    def test_squares_and_roots(self):
        for field in self.fields:
            roots = {}
            for one in range(field.size):
                roots.setdefault(field.product(one, one), []).append(one)
            for one in range(field.size):
                self.assertIs(is_square(field.p, field.k, one), one in roots)
                right = min(roots[one]) if one in roots else None
                self.assertEqual(square_root(field.p, field.k, one), right, (field.p, one))

    def test_zero_and_one(self):
        for p, k in SMALL + GREAT:
            self.assertEqual(conjugates(p, k, 0), [0])
            self.assertEqual(conjugates(p, k, 1), [1])
            self.assertEqual((trace(p, k, 0), norm(p, k, 0)), (0, 0))
            self.assertEqual((trace(p, k, 1), norm(p, k, 1)), (k % p, 1))
            self.assertEqual(least_polynomial(p, k, 0), (0,))
            self.assertEqual(least_polynomial(p, k, 1), (p - 1,))
            self.assertIs(is_square(p, k, 0), True)
            self.assertIs(is_square(p, k, 1), True)
            self.assertEqual(square_root(p, k, 0), 0)
            self.assertEqual(square_root(p, k, 1), 1)
            self.assertEqual((divided(p, k, 0, 1), divided(p, k, 1, 1)), (0, 1))


class GreatFieldsTest(unittest.TestCase):
    def prime_divisors(self, number):
        return [d for d in range(2, number + 1) if number % d == 0 and naive.is_prime(d)]

    def test_orders_up_to_a_million(self):
        for p, k in UP_TO_A_MILLION:
            for one in some_members(p, k):
                if one > 0:
                    times = order_of(p, k, one)
                    self.assertEqual((p ** k - 1) % times, 0)
                    self.assertEqual(power(p, k, one, times), 1)
                    for divisor in self.prime_divisors(times):
                        self.assertNotEqual(power(p, k, one, times // divisor), 1)

    def test_generators_up_to_a_million(self):
        for p, k in UP_TO_A_MILLION:
            one = generator(p, k)
            self.assertEqual(order_of(p, k, one), p ** k - 1)
            for lesser in range(1, one):
                self.assertLess(order_of(p, k, lesser), p ** k - 1)

    def test_all_powers_of_a_generator(self):
        for p, k in ((2, 8), (3, 5), (251, 1)):
            one, reached, found = generator(p, k), 1, []
            for _ in range(p ** k - 1):
                found.append(reached)
                reached = product(p, k, reached, one)
            self.assertEqual(sorted(found), list(range(1, p ** k)))

    def test_conjugates_and_what_comes_of_them(self):
        for p, k in GREAT:
            for one in some_members(p, k):
                own = conjugates(p, k, one)
                self.assertEqual(own[0], one)
                self.assertEqual(len(set(own)), len(own))
                self.assertEqual(k % len(own), 0)
                for place, member in enumerate(own):
                    self.assertEqual(power(p, k, member, p), own[(place + 1) % len(own)])
                lower = least_polynomial(p, k, one)
                self.assertEqual(len(lower), len(own))
                self.assertTrue(all(0 <= figure < p for figure in lower))
                self.assertEqual([value_at(p, k, lower, member) for member in own], [0] * len(own))
                # The coefficients tell the sum and the product of the conjugates.
                often = k // len(own)
                self.assertEqual(trace(p, k, one), -lower[-1] * often % p)
                self.assertEqual(norm(p, k, one), ((-1) ** len(own) * lower[0]) ** often % p)

    def test_trace_goes_over_sums_and_norm_over_products(self):
        for p, k in GREAT:
            members = some_members(p, k)
            for one in members:
                other = members[-2]
                self.assertEqual(trace(p, k, added(p, k, one, other)),
                                 (trace(p, k, one) + trace(p, k, other)) % p)
                self.assertEqual(norm(p, k, product(p, k, one, other)),
                                 norm(p, k, one) * norm(p, k, other) % p)

    def test_powers_for_p_times_go_over_sums_and_products(self):
        for p, k in GREAT:
            members = some_members(p, k)
            for one in members:
                other = members[-2]
                left, right = power(p, k, one, p), power(p, k, other, p)
                self.assertEqual(power(p, k, added(p, k, one, other), p), added(p, k, left, right))
                self.assertEqual(power(p, k, product(p, k, one, other), p), product(p, k, left, right))
                self.assertEqual(power(p, k, one, p ** k), one)

    def test_square_roots(self):
        # The sizes less 1 of these are odd times many different powers of 2.
        for p, k in GREAT + [(786433, 1), (65537, 1), (7, 2), (7, 4), (31, 4), (17, 8), (3, 8), (97, 4)]:
            squares = 0
            for one in some_members(p, k) + [p ** k // 5, p ** k // 7, p ** k // 11, p + 2]:
                one = one % p ** k
                root = square_root(p, k, one)
                self.assertIs(is_square(p, k, one), root is not None)
                both = product(p, k, one, one)
                self.assertIs(is_square(p, k, both), True)
                self.assertEqual(square_root(p, k, both), min(one, less(p, k, 0, one)))
                if root is None:
                    self.assertEqual(power(p, k, one, (p ** k - 1) // 2), p - 1)
                else:
                    squares += 1
                    self.assertEqual(product(p, k, root, root), one)
                    self.assertLessEqual(root, less(p, k, 0, root))
            self.assertGreater(squares, 0)

    def test_divided(self):
        for p, k in GREAT:
            members = some_members(p, k)
            for one in members:
                for other in members[1:]:
                    quotient = divided(p, k, one, other)
                    self.assertEqual(product(p, k, quotient, other), one)
                    self.assertEqual(quotient, product(p, k, one, inverse(p, k, other)))


class RefusedTest(unittest.TestCase):
    def test_no_field(self):
        for p, k in NO_FIELDS:
            for function in ONE_ELEMENT:
                with self.assertRaises(InvalidQuestion):
                    function(p, k, 1)
            with self.assertRaises(InvalidQuestion):
                divided(p, k, 1, 1)
            with self.assertRaises(InvalidQuestion):
                generator(p, k)

    def test_no_element(self):
        for p, k in ((2, 1), (7, 1), (2, 3), (97, 2), (999983, 1)):
            for wrong in (-1, p ** k, p ** k + 5, 10 ** 40, -10 ** 40):
                for function in ONE_ELEMENT:
                    with self.assertRaises(InvalidQuestion):
                        function(p, k, wrong)
                for pair in ((wrong, 1), (1, wrong), (wrong, wrong), (wrong, 0)):
                    with self.assertRaises(InvalidQuestion):
                        divided(p, k, *pair)

    def test_zero(self):
        for p, k in SMALL + GREAT:
            with self.assertRaises(InvalidQuestion):
                order_of(p, k, 0)
            for one in (0, 1):
                with self.assertRaises(InvalidQuestion):
                    divided(p, k, one, 0)

    def test_too_great_a_field(self):
        for p, k in TOO_GREAT:
            self.assertGreater(p ** k, 10 ** 6)
            for one in (1, 2, p ** k - 1, 0, -1):
                with self.assertRaises(InvalidQuestion):
                    order_of(p, k, one)
            with self.assertRaises(InvalidQuestion):
                generator(p, k)
            # All others have no such bound.
            self.assertEqual(square_root(p, k, 1), 1)
            self.assertEqual(trace(p, k, 1), k % p)

    def test_interface(self):
        for function in ONE_ELEMENT + (divided, generator):
            self.assertEqual(function.__module__, elements.__name__)


if __name__ == "__main__":
    unittest.main()
