"""Squares told by trees: what is a tree, and the row, the column and the sign of a cell."""

from math import gcd

from matedsquares.errors import InvalidQuestion, InvalidSquare
from matedsquares.fields import Field, inverse_modulo, is_field, size_of

GREATEST_ORDER = 10 ** 30
MOST_PARTS = 12
GREATEST_LISTED = 12
GREATEST_TABLE = 100

ROW = 0
COLUMN = 1
SIGN = 2


def is_square_tree(tree):
    """Tell whether a tuple is a tree of a square."""
    try:
        checked(tree)
    except InvalidSquare:
        return False
    return True


def checked(tree):
    """Return a tree as tuples, also within."""
    # Trees may be nested deeper than calls may be, so their parts are counted ahead of all else.
    if parts_up_to(tree, MOST_PARTS + 1) > MOST_PARTS:
        raise InvalidSquare("too many parts")
    kept = kept_tree(tree)
    if order_in(kept) > GREATEST_ORDER:
        raise InvalidSquare("too great an order")
    return kept


def order(tree):
    """Return the order of a square."""
    return order_in(checked(tree))


def part_count(tree):
    """Return the number of parts of a tree."""
    return parts_up_to(checked(tree), MOST_PARTS)


def sign(tree, r, c):
    """Return the sign in a row and a column."""
    return asked(tree, (r, c, 0), SIGN)


def row_of(tree, c, s):
    """Return the row in which a sign stands in a column."""
    return asked(tree, (0, c, s), ROW)


def column_of(tree, r, s):
    """Return the column in which a sign stands in a row."""
    return asked(tree, (r, 0, s), COLUMN)


def table(tree):
    """Return the rows of a square of an order up to 100."""
    return rows_up_to(tree, GREATEST_TABLE)


def listed(tree):
    """Return the listed tree with the cells of a square of an order up to 12."""
    return ("listed", rows_up_to(tree, GREATEST_LISTED))


def square_rows(rows):
    """Return the rows of a listed square as a tuple of tuples."""
    if not isinstance(rows, (list, tuple)) or not 1 <= len(rows) <= GREATEST_LISTED:
        raise InvalidSquare("no list of 1 to 12 rows")
    size = len(rows)
    for row in rows:
        if not isinstance(row, (list, tuple)) or not is_arrangement(row, size):
            raise InvalidSquare("a row that has not each sign once")
    for column in range(size):
        if not is_arrangement([row[column] for row in rows], size):
            raise InvalidSquare("a column that has not each sign once")
    return tuple([tuple(row) for row in rows])


def is_arrangement(values, size):
    """Tell whether a list or tuple has each of the integers from 0 on below the size once."""
    return all(is_integer(value) for value in values) and sorted(values) == list(range(size))


def is_integer(value):
    return isinstance(value, int) and not isinstance(value, bool)


def square_of(tree):
    """Return the square of a checked tree, to ask for many of its cells."""
    kind = tree[0]
    if kind == "listed":
        return ListedSquare(tree[1])
    if kind == "sum":
        return SumSquare(tree[1], tree[2], tree[3])
    if kind == "field":
        return FieldSquare(Field(tree[1], tree[2]), tree[3])
    if kind == "product":
        return ProductSquare(square_of(tree[1]), square_of(tree[2]))
    return TurnedSquare(square_of(tree[1]), tree[2])


class ListedSquare:
    """A square of which all rows are told.

    Each class of squares has its order, and a method that returns the part of a cell at one of
    the places ROW, COLUMN and SIGN from those at the two others; what the cell that is handed in
    has at the place itself does not matter. A square is grouped if it is known that its cells are
    told by a sum: that numbers can be given to its rows, columns and signs, for each of the three
    in some order, so that those of a row and a column are added to that of the sign, in a group in
    which the order of adding does not matter."""

    def __init__(self, rows):
        self.rows = rows
        self.order = len(rows)
        self.grouped = False

    def part_at(self, place, cell):
        row, column, own = cell
        if place == SIGN:
            return self.rows[row][column]
        if place == COLUMN:
            return self.rows[row].index(own)
        return [line[column] for line in self.rows].index(own)


class SumSquare:
    """The square whose sign in a row r and a column c is a * r + b * c modulo the order."""

    def __init__(self, size, a, b):
        self.order = size
        self.grouped = True
        # The sum of the parts of a cell, each taken as often as told here, leaves 0.
        self.weights = (a, b, -1)
        self.backs = [inverse_modulo(weight, size) for weight in self.weights]

    def part_at(self, place, cell):
        total = 0
        for other in range(3):
            if other != place:
                total += self.weights[other] * cell[other]
        return -total * self.backs[place] % self.order


class FieldSquare:
    """The square whose sign in a row r and a column c is r + factor * c in a field."""

    def __init__(self, field, factor):
        self.order = field.size
        self.grouped = True
        self.field = field
        self.factor = factor
        self.back = field.inverse(factor)

    def part_at(self, place, cell):
        row, column, own = cell
        if place == COLUMN:
            return self.field.product(self.field.less(own, row), self.back)
        step = self.field.product(self.factor, column)
        if place == SIGN:
            return self.field.added(row, step)
        return self.field.less(own, step)


class ProductSquare:
    """The square whose parts of cells are told by those of two squares, the first one's higher."""

    def __init__(self, first, second):
        self.order = first.order * second.order
        self.grouped = first.grouped and second.grouped
        self.first = first
        self.second = second

    def part_at(self, place, cell):
        size = self.second.order
        high = self.first.part_at(place, [part // size for part in cell])
        low = self.second.part_at(place, [part % size for part in cell])
        return high * size + low


class TurnedSquare:
    """The square whose cells have the parts of those of another one at other places."""

    def __init__(self, base, places):
        self.order = base.order
        self.grouped = base.grouped
        self.base = base
        self.places = places

    def part_at(self, place, cell):
        before = [0, 0, 0]
        for now in range(3):
            before[self.places[now]] = cell[now]
        return self.base.part_at(self.places[place], before)


def asked(tree, cell, place):
    """Return the part of a cell at one place, told by a tree that is not yet checked."""
    square = square_of(checked(tree))
    need_points(square, cell)
    return square.part_at(place, cell)


def need_points(square, points):
    for point in points:
        if point < 0 or point >= square.order:
            raise InvalidQuestion("no row, column or sign of the square")


def rows_up_to(tree, greatest):
    kept = checked(tree)
    size = order_in(kept)
    if size > greatest:
        raise InvalidQuestion("too great an order")
    square = square_of(kept)
    return tuple([tuple([square.part_at(SIGN, (r, c, 0)) for c in range(size)]) for r in range(size)])


def parts_up_to(tree, most):
    """Return the number of parts of what may be a tree, counted no further than to a bound."""
    waiting = [tree]
    count = 0
    while waiting and count < most:
        part = waiting.pop()
        count += 1
        if has_form(part, "product", 3):
            waiting.extend([part[2], part[1]])
        elif has_form(part, "turned", 3):
            waiting.append(part[1])
    return count


def has_form(part, kind, length):
    return isinstance(part, tuple) and len(part) == length and part[0] == kind


def kept_tree(tree):
    """Return a tree as tuples, whatever its order; it has few parts."""
    if has_form(tree, "listed", 2):
        return ("listed", square_rows(tree[1]))
    if has_form(tree, "sum", 4) and is_sum(tree[1:]):
        return tree
    if has_form(tree, "field", 4) and is_field_part(tree[1:]):
        return tree
    if has_form(tree, "product", 3):
        return ("product", kept_tree(tree[1]), kept_tree(tree[2]))
    if has_form(tree, "turned", 3) and is_places(tree[2]):
        return ("turned", kept_tree(tree[1]), tuple(tree[2]))
    raise InvalidSquare("no tree of a square")


def is_sum(numbers):
    if not all(is_integer(number) for number in numbers):
        return False
    size, a, b = numbers
    return 1 <= a <= size and 1 <= b <= size and gcd(a, size) == 1 and gcd(b, size) == 1


def is_field_part(numbers):
    if not all(is_integer(number) for number in numbers):
        return False
    prime, degree, factor = numbers
    return is_field(prime, degree) and 0 < factor < size_of(prime, degree)


def is_places(places):
    return isinstance(places, (list, tuple)) and is_arrangement(places, 3)


def order_in(tree):
    """Return the order of a checked tree."""
    kind = tree[0]
    if kind == "listed":
        return len(tree[1])
    if kind == "sum":
        return tree[1]
    if kind == "field":
        return size_of(tree[1], tree[2])
    if kind == "product":
        return order_in(tree[1]) * order_in(tree[2])
    return order_in(tree[1])
