"""Where the squares of a family meet: what they have in common, transversals, diagonals, trees."""

from matedsquares.errors import InvalidQuestion
from matedsquares.families import COLUMNS, ROWS

GREATEST_GONE_THROUGH = 1000
MOST_PARTS_OF_FAMILIES = 6


def agreement(family, cell, other):
    """Return the kind in which two different cells agree, or None."""
    row, column = cell
    other_row, other_column = other
    family.need_points([row, column, other_row, other_column])
    if row == other_row and column == other_column:
        raise InvalidQuestion("two cells that are one")
    if column == other_column:
        return COLUMNS
    if row == other_row:
        return ROWS
    # With one sign at both cells, r + j * c is the same, so j times one less is the other less.
    steps = differences(family, column, other_column)
    return number_with(family, steps, differences(family, other_row, row))


def square_with(family, row, column, sign):
    """Return the number of the first square that has the sign at the cell, or None."""
    family.need_points([row, column, sign])
    return number_with(family, family.figures(column), differences(family, sign, row))


def transversal(family, number, sign):
    """Return the columns, for each row in order, in which a square has the sign."""
    family.need_number(number)
    family.need_points([sign])
    need_to_go_through(family)
    columns = [0] * family.order
    for column in range(family.order):
        columns[family.row_for(number, column, sign)] = column
    return tuple(columns)


def diagonal(family, number):
    """Return the signs of a square at the cells with the same row and column."""
    family.need_number(number)
    need_to_go_through(family)
    return tuple([family.sign(number, at, at) for at in range(family.order)])


def tree_of(family, number):
    """Return the tree of a square: the first part beside the product of the others."""
    family.need_number(number)
    if len(family.parts) > MOST_PARTS_OF_FAMILIES:
        raise InvalidQuestion("too many parts for a tree")
    trees = [("field", prime, degree, number) for prime, degree in family.parts]
    tree = trees.pop()
    while trees:
        tree = ("product", trees.pop(), tree)
    return tree


def need_to_go_through(family):
    if family.order > GREATEST_GONE_THROUGH:
        raise InvalidQuestion("too great an order to go through")


def differences(family, one, other):
    """Return the figures of a point less those of another one."""
    both = zip(family.fields, family.figures(one), family.figures(other))
    return [field.less(x, y) for field, x, y in both]


def number_with(family, factors, results):
    """Return the first number of a square that gives the results, multiplied by the factors."""
    found = None
    for field, factor, result in zip(family.fields, factors, results):
        if factor > 0:
            number = field.product(result, field.inverse(factor))
            if found is not None and found != number:
                return None
            found = number
        elif result > 0:
            return None
    if found is None:
        return 1
    return found if 1 <= found <= family.many else None
