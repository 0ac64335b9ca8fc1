"""Families of squares by formula: each two of their squares are mates."""

from matedsquares.errors import InvalidOrder, InvalidQuestion
from matedsquares.fields import GREATEST_PRIME, Field, is_field, size_of
from matedsquares.squares import GREATEST_ORDER, is_integer

# The kinds that are no squares.
COLUMNS = -1
ROWS = 0


class Family:
    """The squares of an order by the fields of its prime powers, numbered from 1 on.

    A point has a figure in the field of each part. The square j has the sign r + j * c, figure by
    figure, and so has the kind 0, that of rows, with j as 0."""

    def __init__(self, parts):
        self.parts = kept_parts(parts)
        self.fields = tuple([Field(prime, degree) for prime, degree in self.parts])
        self.order = order_by(self.parts)
        self.many = min([field.size for field in self.fields]) - 1

    def sign(self, number, row, column):
        """Return the sign of a square at a cell."""
        self.need_number(number)
        self.need_points([row, column])
        return self.had(number, row, column)

    def row_for(self, number, column, sign):
        """Return the row in which, in this column, a square has the sign."""
        self.need_number(number)
        self.need_points([column, sign])
        return self.met((COLUMNS, column), (number, sign))[0]

    def column_for(self, number, row, sign):
        """Return the column in which, in this row, a square has the sign."""
        self.need_number(number)
        self.need_points([row, sign])
        return self.met((ROWS, row), (number, sign))[1]

    def cell(self, one, other):
        """Return the row and the column at which two kinds have two points."""
        self.need_pairs(one, other)
        return self.met(one, other)

    def told(self, one, other, wanted):
        """Return what a kind has at the cell at which two kinds have two points."""
        self.need_pairs(one, other)
        self.need_kind(wanted)
        row, column = self.met(one, other)
        return self.had(wanted, row, column)

    def word(self, row, column, kinds):
        """Return what some kinds, in order, have at a cell."""
        self.need_points([row, column])
        for kind in kinds:
            self.need_kind(kind)
        return tuple([self.had(kind, row, column) for kind in kinds])

    def need_number(self, number):
        if not is_integer(number) or not 1 <= number <= self.many:
            raise InvalidQuestion("no number of a square of the family")

    def need_kind(self, kind):
        if not is_integer(kind) or not COLUMNS <= kind <= self.many:
            raise InvalidQuestion("no kind of the family")

    def need_points(self, points):
        for point in points:
            if not is_integer(point) or not 0 <= point < self.order:
                raise InvalidQuestion("no row, column or sign of the family")

    def need_pairs(self, one, other):
        """Need two pairs of a kind and a point, with two kinds."""
        for kind, point in (one, other):
            self.need_kind(kind)
            self.need_points([point])
        if one[0] == other[0]:
            raise InvalidQuestion("two kinds that are one")

    def figures(self, point):
        """Return the figures of a point, that of the first part first."""
        found = []
        for field in reversed(self.fields):
            found.append(point % field.size)
            point = point // field.size
        return found[::-1]

    def point(self, figures):
        """Return the point with these figures."""
        total = 0
        for field, figure in zip(self.fields, figures):
            total = total * field.size + figure
        return total

    def had(self, kind, row, column):
        """Return what a kind has at a cell."""
        if kind == COLUMNS:
            return column
        if kind == ROWS:
            return row
        figures = []
        for field, r, c in zip(self.fields, self.figures(row), self.figures(column)):
            figures.append(field.added(r, field.product(kind, c)))
        return self.point(figures)

    def met(self, one, other):
        """Return the cell at which two different kinds have two points, pair by pair."""
        (low, low_point), (high, high_point) = sorted([tuple(one), tuple(other)])
        rows = []
        columns = []
        for field, x, y in zip(self.fields, self.figures(low_point), self.figures(high_point)):
            # What is told is the column x, or that x is r + low * c; and that y is r + high * c.
            c = x
            if low != COLUMNS:
                c = field.product(field.less(y, x), field.inverse(field.less(high, low)))
            rows.append(field.less(y, field.product(high, c)))
            columns.append(c)
        return self.point(rows), self.point(columns)


def parts_for(order):
    """Return the prime powers of an order, the least prime first."""
    if not is_integer(order) or not 2 <= order <= GREATEST_ORDER:
        raise InvalidOrder("no order of families")
    parts = []
    rest = order
    divisor = 2
    while rest > 1:
        divisor = least_divisor(rest, divisor)
        degree = 0
        while rest % divisor == 0:
            rest = rest // divisor
            degree += 1
        parts.append((divisor, degree))
    return kept_parts(parts)


def least_divisor(number, start):
    """Return the least divisor of a number that has none from 2 on below the start, or the number
    itself if this is above the greatest prime of a field."""
    divisor = start
    while divisor * divisor <= number and divisor <= GREATEST_PRIME:
        if number % divisor == 0:
            return divisor
        divisor += 1 if divisor == 2 else 2
    return number


def kept_parts(parts):
    """Return the prime powers of an order of families as a tuple of pairs, in their order."""
    if not isinstance(parts, (list, tuple)) or not parts:
        raise InvalidOrder("no list of prime powers")
    primes = {}
    total = 1
    for part in parts:
        if not is_part(part) or part[0] in primes:
            raise InvalidOrder("no prime power of a field, or a prime twice")
        primes[part[0]] = True
        total = total * size_of(part[0], part[1])
        if total > GREATEST_ORDER:
            raise InvalidOrder("too great an order")
    return tuple([tuple(part) for part in parts])


def is_part(part):
    """Tell whether something is a pair of a prime and a degree of a field."""
    if not isinstance(part, (list, tuple)) or len(part) != 2:
        return False
    prime, degree = part
    return is_integer(prime) and is_integer(degree) and is_field(prime, degree)


def order_by(parts):
    """Return the order that is told as its prime powers."""
    total = 1
    for prime, degree in parts:
        total = total * size_of(prime, degree)
    return total
