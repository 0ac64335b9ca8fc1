"""Fields: points 15 to 18, 26 and 27."""

import unittest

from matedsquares.errors import InvalidQuestion
from matedsquares.fields import (
    Field, added, inverse, is_field, less, polynomial, power, product,
)
from tests import naive

NO_FIELDS = [
    (0, 1), (1, 1), (-3, 1), (4, 1), (9, 1), (999999, 1), (1000003, 1), (10 ** 40, 1),
    (2, 0), (2, -1), (2, 13), (2, 10 ** 30), (4, 2), (6, 2), (1, 2), (0, 2), (-2, 2),
    (101, 2), (97, 8), (19, 12), (31, 11), (37, 10), (47, 9), (79, 8), (91, 2), (-97, 2),
]
SMALL = [(2, 1), (2, 2), (2, 3), (2, 4), (3, 1), (3, 2), (3, 3), (5, 1), (5, 2), (7, 1), (11, 1)]
GREAT = [(2, 12), (3, 12), (7, 12), (17, 12), (23, 11), (31, 10), (43, 9), (73, 8), (97, 7),
         (97, 2), (999983, 1)]


def some_members(p, k):
    size = p ** k
    return sorted({0, 1, p - 1, p % size, size - 1, size // 2, size // 3, 123456789 % size})


class IsFieldTest(unittest.TestCase):
    def test_example(self):
        self.assertEqual(
            (polynomial(2, 3), polynomial(3, 2), polynomial(5, 2), product(2, 3, 6, 5),
             inverse(3, 2, 4), power(7, 1, 3, -1)),
            ((1, 1, 0), (1, 0), (2, 0), 3, 5, 5))

    def test_degree_one(self):
        for p in range(-5, 400):
            self.assertIs(is_field(p, 1), naive.is_prime(p), p)
        self.assertIs(is_field(999983, 1), True)
        self.assertIs(is_field(1000000, 1), False)
        self.assertIs(is_field(1000003, 1), False)
        self.assertIs(is_field(997 * 997, 1), False)

    def test_greater_degrees(self):
        for p in range(-3, 130):
            for k in range(-2, 16):
                if k != 1:
                    right = (naive.is_prime(p) and p <= 97 and 2 <= k <= 12
                             and p ** k <= 10 ** 15)
                    self.assertIs(is_field(p, k), right, (p, k))

    def test_bounds(self):
        for pair in NO_FIELDS:
            self.assertIs(is_field(*pair), False, pair)
        for pair in (*SMALL, *GREAT):
            self.assertIs(is_field(*pair), True, pair)


class PolynomialTest(unittest.TestCase):
    def test_degree_one_is_x(self):
        for p in (2, 3, 97, 101, 999983):
            self.assertEqual(polynomial(p, 1), (0,))

    def test_small_by_division(self):
        for p, k in [(2, k) for k in range(2, 9)] + [(3, k) for k in range(2, 6)] + \
                [(5, 2), (5, 3), (5, 4), (7, 2), (7, 3), (7, 4), (11, 2), (13, 2), (13, 3)]:
            self.assertEqual(polynomial(p, k), tuple(naive.NaiveField(p, k).lower), (p, k))

    def test_all_by_rank(self):
        for p in range(2, 98):
            for k in range(2, 13):
                if is_field(p, k):
                    lower = polynomial(p, k)
                    self.assertEqual(len(lower), k)
                    number = naive.number_of(p, lower)
                    self.assertTrue(naive.is_irreducible_by_rank(p, lower), (p, k))
                    for before in range(number):
                        self.assertFalse(
                            naive.is_irreducible_by_rank(p, naive.figures(p, k, before)), (p, k))

    def test_known_ones_of_two(self):
        numbers = [naive.number_of(2, polynomial(2, k)) for k in range(2, 13)]
        self.assertEqual(numbers, [3, 3, 3, 5, 3, 3, 27, 3, 9, 5, 9])


class ReckoningTest(unittest.TestCase):
    def test_small_fields_wholly(self):
        for p, k in SMALL:
            plain = naive.NaiveField(p, k)
            for one in range(p ** k):
                for other in range(p ** k):
                    total = added(p, k, one, other)
                    self.assertEqual(total, plain.added(one, other))
                    self.assertEqual(less(p, k, total, other), one)
                    self.assertEqual(product(p, k, one, other), plain.product(one, other))

    def test_inverse_in_small_fields(self):
        for p, k in SMALL:
            plain = naive.NaiveField(p, k)
            for one in range(1, p ** k):
                back = inverse(p, k, one)
                self.assertTrue(0 < back < p ** k)
                self.assertEqual(plain.product(one, back), 1, (p, k, one))

    def test_power_in_small_fields(self):
        for p, k in SMALL:
            plain = naive.NaiveField(p, k)
            for one in range(p ** k):
                for times in (0, 1, 2, 3, 7, p ** k - 2, p ** k - 1, p ** k, p ** k + 1):
                    self.assertEqual(power(p, k, one, times), plain.power(one, times))
                for times in (-1, -2, -5):
                    if one > 0:
                        back = plain.power(inverse(p, k, one), -times)
                        self.assertEqual(power(p, k, one, times), back)

    def test_power_for_great_numbers_of_times(self):
        self.assertEqual(power(7, 1, 3, 6 * 10 ** 40 + 2), 2)
        self.assertEqual(power(7, 1, 3, -6 * 10 ** 40 - 1), 5)
        self.assertEqual(power(2, 3, 0, 10 ** 50), 0)
        self.assertEqual(power(2, 1, 1, -10 ** 50), 1)

    def test_power_for_no_times_is_one(self):
        for p, k in (*SMALL, *GREAT):
            for one in some_members(p, k):
                self.assertEqual(power(p, k, one, 0), 1)

    def test_great_fields(self):
        for p, k in GREAT:
            members = some_members(p, k)
            lower = list(polynomial(p, k)) if k > 1 else [0]
            for one in members:
                for other in members:
                    total = added(p, k, one, other)
                    pairs = zip(naive.figures(p, k, one), naive.figures(p, k, other))
                    self.assertEqual(total, naive.number_of(p, [a + b for a, b in pairs]))
                    self.assertEqual(less(p, k, total, one), other)
                    both = naive.multiply(p, naive.figures(p, k, one), naive.figures(p, k, other))
                    if k > 1:
                        both = naive.remainder(p, both, lower + [1])
                    self.assertEqual(product(p, k, one, other), naive.number_of(p, both))
                if one > 0:
                    self.assertEqual(product(p, k, one, inverse(p, k, one)), 1)
                    self.assertEqual(power(p, k, one, p ** k - 1), 1)
                self.assertEqual(power(p, k, one, p ** k), one)

    def test_degree_one_is_modulo_the_prime(self):
        p = 999983
        for one, other in ((5, 7), (p - 1, p - 1), (500000, 654321)):
            self.assertEqual(added(p, 1, one, other), (one + other) % p)
            self.assertEqual(less(p, 1, one, other), (one - other) % p)
            self.assertEqual(product(p, 1, one, other), one * other % p)
            self.assertEqual(inverse(p, 1, one), pow(one, -1, p))
            self.assertEqual(power(p, 1, one, -12345), pow(one, -12345, p))

    def test_field_reckons_likewise(self):
        for p, k in ((2, 4), (3, 3), (97, 7)):
            field = Field(p, k)
            self.assertEqual((field.prime, field.degree, field.size), (p, k, p ** k))
            for one in some_members(p, k):
                for other in some_members(p, k):
                    self.assertEqual(field.added(one, other), added(p, k, one, other))
                    self.assertEqual(field.less(one, other), less(p, k, one, other))
                    self.assertEqual(field.product(one, other), product(p, k, one, other))


class RefusedTest(unittest.TestCase):
    def test_no_field(self):
        for p, k in NO_FIELDS:
            for call in (
                    lambda: polynomial(p, k), lambda: added(p, k, 0, 0), lambda: less(p, k, 0, 0),
                    lambda: product(p, k, 1, 1), lambda: inverse(p, k, 1),
                    lambda: power(p, k, 1, 1), lambda: power(p, k, 1, 0), lambda: Field(p, k)):
                with self.assertRaises(InvalidQuestion):
                    call()

    def test_no_element(self):
        for p, k in ((2, 1), (7, 1), (2, 3), (97, 7), (999983, 1)):
            for wrong in (-1, p ** k, p ** k + 1, -10 ** 40, 10 ** 40):
                for function in (added, less, product):
                    for pair in ((wrong, 0), (0, wrong), (wrong, 1), (1, wrong), (wrong, wrong)):
                        with self.assertRaises(InvalidQuestion):
                            function(p, k, *pair)
                with self.assertRaises(InvalidQuestion):
                    inverse(p, k, wrong)
                for times in (-1, 0, 1):
                    with self.assertRaises(InvalidQuestion):
                        power(p, k, wrong, times)

    def test_zero(self):
        for p, k in (*SMALL, *GREAT):
            with self.assertRaises(InvalidQuestion):
                inverse(p, k, 0)
            for times in (-1, -2, -10 ** 30):
                with self.assertRaises(InvalidQuestion):
                    power(p, k, 0, times)
            self.assertEqual(power(p, k, 0, 0), 1)
            self.assertEqual(power(p, k, 0, 5), 0)


if __name__ == "__main__":
    unittest.main()
