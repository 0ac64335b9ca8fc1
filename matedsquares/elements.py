"""Elements of finite fields: orders, conjugates, least polynomials and square roots."""

from matedsquares.errors import InvalidQuestion
from matedsquares.fields import Field, need_field, need_members, need_not_zero, size_of

GREATEST_WITH_ORDERS = 10 ** 6


def divided(prime, degree, one, other):
    """Return the first element divided by the second one."""
    need_members(prime, degree, (one, other))
    need_not_zero(other)
    field = Field(prime, degree)
    return field.product(one, field.inverse(other))


def order_of(prime, degree, one):
    """Return the least number of times, from 1 on, for which the power is 1."""
    need_members(prime, degree, (one,))
    need_not_zero(one)
    need_orders(prime, degree)
    field = Field(prime, degree)
    times = field.size - 1
    for divisor in prime_divisors(times):
        while times % divisor == 0 and field.power(one, times // divisor) == 1:
            times = times // divisor
    return times


def generator(prime, degree):
    """Return the least element whose powers are all but 0."""
    need_field(prime, degree)
    need_orders(prime, degree)
    field = Field(prime, degree)
    all_times = field.size - 1
    shorter = [all_times // divisor for divisor in prime_divisors(all_times)]
    one = 1
    while has_power_one(field, one, shorter):
        one += 1
    return one


def conjugates(prime, degree, one):
    """Return the element, its power for p times, and so on, up to ahead of the element itself."""
    need_members(prime, degree, (one,))
    return conjugates_in(Field(prime, degree), one)


def trace(prime, degree, one):
    """Return the sum of the powers for p ** i times, for i from 0 on below the degree."""
    need_members(prime, degree, (one,))
    field = Field(prime, degree)
    total = 0
    for member in repeated_powers(field, one):
        total = field.added(total, member)
    return total


def norm(prime, degree, one):
    """Return the product of the powers for p ** i times, for i from 0 on below the degree."""
    need_members(prime, degree, (one,))
    field = Field(prime, degree)
    total = 1
    for member in repeated_powers(field, one):
        total = field.product(total, member)
    return total


def least_polynomial(prime, degree, one):
    """Return the lower coefficients of the least polynomial of an element."""
    need_members(prime, degree, (one,))
    field = Field(prime, degree)
    coefficients = [1]
    for root in conjugates_in(field, one):
        coefficients = times_x_less(field, coefficients, root)
    return tuple(coefficients[:-1])


def is_square(prime, degree, one):
    """Tell whether an element is the product of some element with itself."""
    need_members(prime, degree, (one,))
    return is_square_in(Field(prime, degree), one)


def square_root(prime, degree, one):
    """Return the least element of which the element is the square, or None."""
    need_members(prime, degree, (one,))
    field = Field(prime, degree)
    if not is_square_in(field, one):
        return None
    if one == 0 or prime == 2:
        # With p = 2 the power for size times is the element itself.
        return field.power(one, field.size // 2)
    root = root_in(field, one)
    return min(root, field.less(0, root))


def need_orders(prime, degree):
    if size_of(prime, degree) > GREATEST_WITH_ORDERS:
        raise InvalidQuestion("too great a field")


def has_power_one(field, one, numbers):
    """Tell whether a power of an element for one of some numbers of times is 1."""
    for times in numbers:
        if field.power(one, times) == 1:
            return True
    return False


def prime_divisors(number):
    """Return the primes that divide a number from 1 on, ascending."""
    found = []
    divisor = 2
    while divisor * divisor <= number:
        if number % divisor == 0:
            found.append(divisor)
        while number % divisor == 0:
            number = number // divisor
        divisor += 1
    if number > 1:
        found.append(number)
    return found


def conjugates_in(field, one):
    found = [one]
    last = field.power(one, field.prime)
    while last != one:
        found.append(last)
        last = field.power(last, field.prime)
    return found


def repeated_powers(field, one):
    """Return the powers for p ** i times, for i from 0 on below the degree."""
    found = [one]
    while len(found) < field.degree:
        found.append(field.power(found[-1], field.prime))
    return found


def times_x_less(field, coefficients, root):
    """Return a polynomial multiplied by x less an element of the field."""
    raised = [0, *coefficients]
    for place, coefficient in enumerate(coefficients):
        raised[place] = field.less(raised[place], field.product(coefficient, root))
    return raised


def is_square_in(field, one):
    if one == 0 or field.prime == 2:
        return True
    return field.power(one, (field.size - 1) // 2) == 1


def root_in(field, one):
    """Return a root of a square that is not 0, where p is not 2."""
    # The field's size less 1 is odd times a power of 2. One root is known up to an element whose
    # order is such a power; it is corrected by powers of an element that has the whole of it.
    odd = field.size - 1
    twos = 0
    while odd % 2 == 0:
        odd = odd // 2
        twos += 1
    unit = field.power(first_non_square(field), odd)
    root = field.power(one, (odd + 1) // 2)
    rest = field.power(one, odd)
    while rest != 1:
        depth = squarings_to_one(field, rest)
        step = squared(field, unit, twos - depth - 1)
        root = field.product(root, step)
        rest = field.product(rest, field.product(step, step))
    return root


def first_non_square(field):
    # If the degree is even, all elements below p are squares.
    one = 2 if field.degree == 1 else field.prime
    while is_square_in(field, one):
        one += 1
    return one


def squarings_to_one(field, one):
    """Return how often an element is to be squared until 1 comes."""
    count = 0
    while one != 1:
        one = field.product(one, one)
        count += 1
    return count


def squared(field, one, count):
    """Return an element squared so often."""
    for _ in range(count):
        one = field.product(one, one)
    return one
