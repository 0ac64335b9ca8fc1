"""Finite fields: an element is an integer, and its figures by the prime are the coefficients
of a polynomial, that of x ** 0 first."""

from matedsquares.errors import InvalidQuestion

GREATEST_PRIME = 10 ** 6
GREATEST_DEGREE = 12
GREATEST_PRIME_OF_POWERS = 97
GREATEST_POWER = 10 ** 15


def is_field(prime, degree):
    """Tell whether a prime and a degree are those of a field within the bounds."""
    if degree == 1:
        return prime <= GREATEST_PRIME and is_prime(prime)
    if degree < 2 or degree > GREATEST_DEGREE or prime > GREATEST_PRIME_OF_POWERS:
        return False
    return is_prime(prime) and size_of(prime, degree) <= GREATEST_POWER


def polynomial(prime, degree):
    """Return the lower coefficients of the polynomial of the field."""
    need_field(prime, degree)
    return first_irreducible(prime, degree)


def added(prime, degree, one, other):
    """Return the sum of two elements."""
    need_members(prime, degree, (one, other))
    return with_multiple(prime, one, other, 1)


def less(prime, degree, one, other):
    """Return the element that gives the first one if the second one is added."""
    need_members(prime, degree, (one, other))
    return with_multiple(prime, one, other, -1)


def product(prime, degree, one, other):
    """Return the product of two elements."""
    need_members(prime, degree, (one, other))
    return Field(prime, degree).product(one, other)


def inverse(prime, degree, one):
    """Return the element that gives 1 with an element that is not 0."""
    need_members(prime, degree, (one,))
    need_not_zero(one)
    return Field(prime, degree).inverse(one)


def power(prime, degree, one, times):
    """Return the power of an element for an integer number of times."""
    need_members(prime, degree, (one,))
    if times < 0:
        need_not_zero(one)
    return Field(prime, degree).power(one, times)


class Field:
    """A field whose polynomial was looked for once, to reckon with many of its elements.

    Its methods take what surely is an element, and do not ask for it again."""

    def __init__(self, prime, degree):
        need_field(prime, degree)
        self.prime = prime
        self.degree = degree
        self.size = size_of(prime, degree)
        self.coefficients = first_irreducible(prime, degree)

    def added(self, one, other):
        return with_multiple(self.prime, one, other, 1)

    def less(self, one, other):
        return with_multiple(self.prime, one, other, -1)

    def product(self, one, other):
        left = figures_of(self.prime, self.degree, one)
        right = figures_of(self.prime, self.degree, other)
        return number_of(self.prime, multiplied(self.prime, self.coefficients, left, right))

    def inverse(self, one):
        return self.power(one, -1)

    def power(self, one, times):
        if one == 0:
            return 1 if times == 0 else 0
        # The power of an element that is not 0 is 1 for size - 1 times, so numbers of times that
        # leave the same have the same power, those below 0 too.
        rest = times % (self.size - 1)
        figures = figures_of(self.prime, self.degree, one)
        return number_of(self.prime, raised(self.prime, self.coefficients, figures, rest))


def need_field(prime, degree):
    if not is_field(prime, degree):
        raise InvalidQuestion("no field within the bounds")


def need_members(prime, degree, members):
    need_field(prime, degree)
    size = size_of(prime, degree)
    for member in members:
        if member < 0 or member >= size:
            raise InvalidQuestion("no element of the field")


def need_not_zero(one):
    if one == 0:
        raise InvalidQuestion("0 has no inverse")


def is_prime(number):
    if number < 2:
        return False
    divisor = 2
    while divisor * divisor <= number:
        if number % divisor == 0:
            return False
        divisor += 1
    return True


def size_of(prime, degree):
    size = 1
    for _ in range(degree):
        size = size * prime
    return size


def figures_of(prime, count, number):
    """Return so many figures of a number by a prime, the lowest first."""
    figures = []
    for _ in range(count):
        figures.append(number % prime)
        number = number // prime
    return figures


def number_of(prime, figures):
    number = 0
    for figure in reversed(figures):
        number = number * prime + figure
    return number


def with_multiple(prime, one, other, factor):
    """Return an element and a multiple of another one added, figure by figure."""
    total = 0
    place = 1
    while one > 0 or other > 0:
        total += (one % prime + factor * (other % prime)) % prime * place
        one = one // prime
        other = other // prime
        place = place * prime
    return total


def inverse_modulo(number, modulus):
    """Return what gives 1 with a number that is coprime to the modulus, modulo it."""
    before, rest = modulus, number % modulus
    before_factor, factor = 0, 1
    while rest > 0:
        many = before // rest
        before, rest = rest, before - many * rest
        before_factor, factor = factor, before_factor - many * factor
    return before_factor % modulus


def first_irreducible(prime, degree):
    """Return the lower coefficients of the first irreducible polynomial, by its number."""
    if degree == 1:
        return (0,)
    number = 0
    lower = figures_of(prime, degree, number)
    while not is_irreducible(prime, lower):
        number += 1
        lower = figures_of(prime, degree, number)
    return tuple(lower)


def is_irreducible(prime, lower):
    """Tell whether a polynomial of a degree from 2 on is irreducible, by its lower coefficients.

    The polynomial x ** (prime ** k) - x is the product of all irreducible ones whose degree
    divides k, and one of two factors has at most half the degree."""
    degree = len(lower)
    if lower[0] == 0:
        return False
    unknown = [0, 1] + [0] * (degree - 2)
    reached = unknown
    for _ in range(degree // 2):
        reached = raised(prime, lower, reached, prime)
        change = [(figure - own) % prime for figure, own in zip(reached, unknown)]
        if have_common_factor(prime, [*lower, 1], change):
            return False
    return True


def multiplied(prime, lower, one, other):
    """Return the remainder of a product by the polynomial with these lower coefficients."""
    degree = len(lower)
    rest = [0] * (2 * degree - 1)
    for place, figure in enumerate(one):
        if figure > 0:
            for step, factor in enumerate(other):
                rest[place + step] += figure * factor
    low = [(step, figure) for step, figure in enumerate(lower) if figure > 0]
    while len(rest) > degree:
        lead = rest.pop() % prime
        place = len(rest) - degree
        for step, figure in low:
            rest[place + step] -= lead * figure
    return [figure % prime for figure in rest]


def raised(prime, lower, figures, times):
    """Return the power of a polynomial for times from 0 on, by squaring."""
    result = [1] + [0] * (len(lower) - 1)
    while times > 0:
        if times % 2 == 1:
            result = multiplied(prime, lower, result, figures)
        times = times // 2
        if times > 0:
            figures = multiplied(prime, lower, figures, figures)
    return result


def have_common_factor(prime, one, other):
    """Tell whether two polynomials, the first one not 0, have a factor that is no constant."""
    one = without_high_zeros(one)
    other = without_high_zeros(other)
    while other:
        one, other = other, remainder_by(prime, one, other)
    return len(one) > 1


def remainder_by(prime, one, other):
    back = inverse_modulo(other[-1], prime)
    rest = list(one)
    while len(rest) >= len(other):
        factor = rest[-1] * back % prime
        place = len(rest) - len(other)
        for step, figure in enumerate(other):
            rest[place + step] = (rest[place + step] - factor * figure) % prime
        rest.pop()
    return without_high_zeros(rest)


def without_high_zeros(figures):
    kept = list(figures)
    while kept and kept[-1] == 0:
        kept.pop()
    return kept
