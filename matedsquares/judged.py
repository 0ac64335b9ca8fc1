"""Families of listed squares: squares of one order, each two of which are mates."""

from matedsquares.errors import InvalidQuestion, InvalidSquare
from matedsquares.mates import first_repeat
from matedsquares.transversals import kept_rows


def family_fault(squares):
    """Return the numbers, from 1 on, of the first two squares that are no mates, and the two cells
    that show it; or None."""
    return fault_among(kept_squares(squares))


def is_family(squares):
    """Tell whether each two of the squares are mates."""
    return family_fault(squares) is None


def kept_squares(squares):
    """Return the rows of one or more squares of one order, each as a tuple of tuples."""
    if not isinstance(squares, (list, tuple)):
        raise InvalidSquare("no list of squares")
    kept = [kept_rows(rows) for rows in squares]
    if not kept:
        raise InvalidSquare("no square")
    for rows in kept:
        if len(rows) != len(kept[0]):
            raise InvalidSquare("squares of unlike orders")
    return kept


def kept_family(squares):
    """Return the rows of the squares of a family, each as a tuple of tuples."""
    kept = kept_squares(squares)
    if fault_among(kept) is not None:
        raise InvalidQuestion("two squares that are no mates")
    return kept


def fault_among(kept):
    for at, one in enumerate(kept):
        for behind in range(at + 1, len(kept)):
            cells = first_repeat(one, kept[behind])
            if cells is not None:
                return (at + 1, behind + 1, *cells)
    return None
