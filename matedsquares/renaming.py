"""Squares whose rows, columns and signs get other names, and their standard forms."""

from matedsquares.errors import InvalidQuestion
from matedsquares.squares import is_arrangement, listed


def renamed(tree, names):
    """Return the listed square that comes of a square by names."""
    rows = listed(tree)[1]
    return ("listed", rows_by(rows, kept_names(names, len(rows))))


def undone(names):
    """Return the names that undo others."""
    return tuple([backward(own) for own in kept_names(names, size_of_names(names))])


def one_after_another(first, second):
    """Return the names that come of the first ones and then the second ones."""
    one = kept_names(first, size_of_names(first))
    other = kept_names(second, len(one[0]))
    return tuple([tuple([later[name] for name in own]) for own, later in zip(one, other)])


def standard(tree):
    """Return the standard form of a square by names that leave its columns and its row 0."""
    rows = listed(tree)[1]
    return ("listed", rows_by(rows, names_to_standard(rows)))


def standard_names(tree):
    """Return the names by which the standard form comes of a square."""
    return names_to_standard(listed(tree)[1])


def is_standard(tree):
    """Tell whether the first row and the first column of a square are in order."""
    rows = listed(tree)[1]
    in_order = list(range(len(rows)))
    return list(rows[0]) == in_order and [row[0] for row in rows] == in_order


def same_standard(one, other):
    """Tell whether two squares have the same standard form."""
    return standard(one) == standard(other)


def are_names(names, size):
    """Tell whether something is three lists of the integers from 0 on below a size, each once."""
    if not isinstance(names, (list, tuple)) or len(names) != 3:
        return False
    return all(isinstance(own, (list, tuple)) and is_arrangement(own, size) for own in names)


def kept_names(names, size):
    """Return the names of a square of an order as a tuple of tuples."""
    # A square has at least one row, so no names are empty.
    if size < 1 or not are_names(names, size):
        raise InvalidQuestion("no names of the rows, columns and signs of a square of the order")
    return tuple([tuple(own) for own in names])


def size_of_names(names):
    """Return the order of the squares that may have such names, or 0 if there are none."""
    if not isinstance(names, (list, tuple)) or not names or not isinstance(names[0], (list, tuple)):
        return 0
    return len(names[0])


def backward(own):
    back = [0] * len(own)
    for old, new in enumerate(own):
        back[new] = old
    return tuple(back)


def names_to_standard(rows):
    """Return the names that leave all columns and the row 0, and lead to the standard form."""
    signs = backward(rows[0])
    return (tuple([signs[row[0]] for row in rows]), tuple(range(len(rows))), signs)


def rows_by(rows, names):
    """Return the rows of a square of which all that is told gets its name."""
    new_rows, new_columns, new_signs = names
    found = [[0] * len(rows) for _ in rows]
    for r, row in enumerate(rows):
        for c, own in enumerate(row):
            found[new_rows[r]][new_columns[c]] = new_signs[own]
    return tuple([tuple(row) for row in found])
