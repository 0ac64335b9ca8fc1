"""Nets: classes of lines of points, of which two of unlike classes have one point in common."""

from matedsquares.arrays import array_of, need_order, squares_told
from matedsquares.errors import InvalidQuestion
from matedsquares.squares import is_arrangement

FEWEST_CLASSES = 2


def net_of(squares):
    """Return the net of a family: its rows, its columns, and the lines of one sign of each square."""
    # The place of a row in the array is the point of the cell that the row tells.
    rows = array_of(squares)
    return [class_of([row[column] for row in rows], len(squares[0])) for column in range(len(rows[0]))]


def net_fault(order, classes):
    """Return two lines of unlike classes that have two points in common, each behind its class; or
    None."""
    need_classes(order, classes)
    places = [line_places(order, lines) for lines in classes]
    for one, lines in enumerate(classes):
        for other in range(one + 1, len(classes)):
            for line, points in enumerate(lines):
                met = first_met_twice(points, places[other])
                if met is not None:
                    return (one, line, other, met)
    return None


def squares_of_net(order, classes):
    """Return the list of the squares of a net."""
    if net_fault(order, classes) is not None:
        raise InvalidQuestion("no net")
    places = [line_places(order, lines) for lines in classes]
    return squares_told(order, list(zip(*places)))


def class_of(signs, order):
    """Return the lines of the points with the sign 0, 1 and so on."""
    lines = [[] for _ in range(order)]
    for point, own in enumerate(signs):
        lines[own].append(point)
    return [tuple(line) for line in lines]


def need_classes(order, classes):
    need_order(order)
    if not isinstance(classes, (list, tuple)) or len(classes) < FEWEST_CLASSES:
        raise InvalidQuestion("fewer than two classes")
    for lines in classes:
        if not is_class(order, lines):
            raise InvalidQuestion("a class that has not as many lines of as many points, each once")


def is_class(order, lines):
    """Tell whether something is as many lines of as many points as the order, each point once."""
    if not isinstance(lines, (list, tuple)) or len(lines) != order:
        return False
    for line in lines:
        if not isinstance(line, (list, tuple)) or len(line) != order:
            return False
    return is_arrangement([point for line in lines for point in line], order * order)


def line_places(order, lines):
    """Return for each point the place of its line in a class."""
    places = [0] * (order * order)
    for place, line in enumerate(lines):
        for point in line:
            places[point] = place
    return places


def first_met_twice(points, places):
    """Return the least place that two of some points have, or None."""
    met = sorted([places[point] for point in points])
    for before, place in zip(met, met[1:]):
        if before == place:
            return place
    return None
