"""Likenesses: maps of rows, columns and signs that lead one square to another one."""

from matedsquares.errors import TooMany
from matedsquares.renaming import are_names, renamed
from matedsquares.squares import listed


def is_likeness(one, other, maps):
    """Tell whether maps are a likeness of two squares."""
    first = listed(one)
    second = listed(other)
    return are_names(maps, len(first[1])) and renamed(first, maps) == second


def likenesses(one, other, *, limit=2000):
    """Return the list of all likenesses of two squares, ascending."""
    search = Search(listed(one)[1], listed(other)[1])
    for row in search.rows:
        for column in search.rows:
            search.go_through(row, column, limit + 1)
    if len(search.found) > limit:
        raise TooMany(limit)
    return sorted(search.found)


def likeness_count(one, other, *, limit=2000):
    """Return the number of likenesses of two squares."""
    return len(likenesses(one, other, limit=limit))


def likeness(one, other):
    """Return the first likeness of two squares, or None."""
    search = Search(listed(one)[1], listed(other)[1])
    for row in search.rows:
        # For each image of the column 0, that likeness is found first which is the least one.
        for column in search.rows:
            search.go_through(row, column, len(search.found) + 1)
        if search.found:
            return min(search.found)
    return None


def are_alike(one, other):
    """Tell whether two squares have a likeness."""
    return likeness(one, other) is not None


def led(tree, maps):
    """Return the rows of the square to which maps lead a square."""
    return renamed(tree, maps)[1]


class Search:
    """Images of rows, columns and signs of a square in another one, with all that follows of them.

    All these are points: with the order n, the rows from 0 on, the columns from n on, and the signs
    from 2 * n on. Two points of a cell tell the third one, so the images of two tell its image. The
    images of all rows and of one column tell all images, and so the search need not go further."""

    def __init__(self, one, other):
        self.size = len(one)
        # The images of the row 0 to be gone through: none lead to a square of another order.
        self.rows = list(range(self.size)) if self.size == len(other) else []
        self.thirds = third_points(one)
        self.image_thirds = third_points(other)
        self.images = [None] * (3 * self.size)
        self.is_image = [False] * (3 * len(other))
        # The points that have an image, in the order in which they got it.
        self.mapped = []
        self.found = []

    def go_through(self, row, column, most):
        """Find the likenesses with these images of the row 0 and of the column 0, by the images of
        their rows ascending, until so many are found in all."""
        if self.lead(0, row) and self.lead(self.size, self.size + column):
            self.lead_further(most)
        self.forget(0)

    def lead_further(self, most):
        point = 0
        while point < self.size and self.images[point] is not None:
            point += 1
        if point == self.size:
            self.found.append(self.maps())
            return
        known = len(self.mapped)
        for image in range(self.size):
            if len(self.found) < most:
                if self.lead(point, image):
                    self.lead_further(most)
                self.forget(known)

    def lead(self, point, image):
        """Give a point its image, and others what follows of it; tell whether all that fits."""
        # Of three points of a cell two tell the image of the one that gets its image last, so that
        # all cells are looked at here.
        waiting = [(point, image)]
        while waiting:
            point, image = waiting.pop()
            if self.images[point] is None and not self.is_image[image]:
                self.images[point] = image
                self.is_image[image] = True
                self.mapped.append(point)
                waiting.extend(self.what_follows(point))
            elif self.images[point] != image:
                return False
        return True

    def what_follows(self, point):
        """Return the points without an image that have a cell with a point and another one that has
        an image, each with the image that follows."""
        thirds = self.thirds[point]
        image_thirds = self.image_thirds[self.images[point]]
        found = []
        for other in self.mapped:
            third = thirds[other]
            if third is not None and self.images[third] is None:
                found.append((third, image_thirds[self.images[other]]))
        return found

    def forget(self, known):
        """Take the images away again, but those of so many points that got theirs first."""
        while len(self.mapped) > known:
            point = self.mapped.pop()
            self.is_image[self.images[point]] = False
            self.images[point] = None

    def maps(self):
        starts = [0, self.size, 2 * self.size]
        return tuple([tuple([image - at for image in self.images[at:at + self.size]]) for at in starts])


def third_points(rows):
    """Return for each two points of a square the third one of their cell, or None for two rows, two
    columns or two signs."""
    size = len(rows)
    thirds = [[None] * (3 * size) for _ in range(3 * size)]
    for r, row in enumerate(rows):
        for c, own in enumerate(row):
            cell = (r, size + c, 2 * size + own)
            for at in range(3):
                thirds[cell[at]][cell[at - 1]] = cell[at - 2]
                thirds[cell[at]][cell[at - 2]] = cell[at - 1]
    return thirds
