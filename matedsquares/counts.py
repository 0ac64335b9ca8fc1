"""Counts that part squares which are not alike: rounds of rows, columns and signs, and twos."""

from matedsquares.errors import InvalidQuestion
from matedsquares.squares import listed
from matedsquares.subsquares import cycles_of

# For each word how a square is turned so that what the word tells becomes its rows, and that
# becomes its signs through which the rounds go.
TURNS = {"row": (0, 1, 2), "column": (1, 0, 2), "sign": (2, 0, 1)}


def rounds(tree, word, one, other):
    """Return the lengths of the rounds of two rows, columns or signs, ascending."""
    lines = lines_of(tree, word)
    for number in (one, other):
        if not 0 <= number < len(lines):
            raise InvalidQuestion("no row, column or sign of the square")
    if one == other:
        raise InvalidQuestion("one row, column or sign twice")
    return lengths_between(lines[one], lines[other])


def all_rounds(tree, word):
    """Return the lengths of rounds that pairs have, each with the number of pairs, ascending."""
    lines = lines_of(tree, word)
    pairs = {}
    for number, line in enumerate(lines):
        for before in lines[:number]:
            lengths = tuple(lengths_between(before, line))
            pairs[lengths] = pairs.get(lengths, 0) + 1
    return sorted(pairs.items())


def twos(tree):
    """Return the rows that tell for each cell in how many twos it lies."""
    rows = listed(tree)[1]
    columns = range(len(rows))
    return tuple([tuple([twos_at(rows, row, column) for column in columns]) for row in rows])


def two_count(tree):
    """Return how many twos there are."""
    # Each two has four cells.
    return sum([sum(row) for row in twos(tree)]) // 4


def counts_of(tree):
    """Return the order and what `all_rounds` tells for rows, for columns and for signs."""
    kept = listed(tree)
    return (len(kept[1]), *[tuple(all_rounds(kept, word)) for word in ("row", "column", "sign")])


def shows_unlike(one, other):
    """Tell whether the counts of two squares differ, so that they are not alike."""
    return counts_of(one) != counts_of(other)


def lines_of(tree, word):
    """Return the rows of the square that is turned as a word tells."""
    kept = listed(tree)
    if word not in TURNS:
        raise InvalidQuestion("no word for rows, columns or signs")
    return listed(("turned", kept, TURNS[word]))[1]


def lengths_between(one, other):
    behind = [0] * len(one)
    for own, later in zip(one, other):
        behind[own] = later
    return sorted([len(cycle) for cycle in cycles_of(behind)])


def twos_at(rows, row, column):
    """Return the number of the twos in which the cell of a row, handed in itself, lies."""
    count = 0
    for other in rows:
        opposite = row.index(other[column])
        if opposite != column and other[opposite] == row[column]:
            count += 1
    return count
