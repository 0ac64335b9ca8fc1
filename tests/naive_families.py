"""Families by the words of the points 43 to 54, slow and plain, sharing no code with the program."""

from tests import naive


class FieldByRank(naive.NaiveField):
    """A field whose polynomial is looked for in a way that goes for great ones, too."""

    def __init__(self, p, k):
        self.p, self.k, self.size = p, k, p ** k
        self.lower = [0]
        if k > 1:
            number = 0
            while not naive.is_irreducible_by_rank(p, naive.figures(p, k, number)):
                number += 1
            self.lower = naive.figures(p, k, number)


class NaiveFamily:
    def __init__(self, parts):
        self.fields = [FieldByRank(p, k) for p, k in parts]
        self.order = 1
        for field in self.fields:
            self.order *= field.size
        self.many = min(field.size for field in self.fields) - 1
        self.kinds = range(-1, self.many + 1)
        self.products = {}

    def figures(self, point):
        found = []
        size = self.order
        for field in self.fields:
            size //= field.size
            found.append(point // size % field.size)
        return found

    def point(self, figures):
        size, total = self.order, 0
        for field, figure in zip(self.fields, figures):
            size //= field.size
            total += figure * size
        return total

    def product(self, at, one, other):
        key = (at, one, other)
        if key not in self.products:
            self.products[key] = self.fields[at].product(one, other)
        return self.products[key]

    def has(self, kind, row, column):
        if kind == -1:
            return column
        if kind == 0:
            return row
        figures = []
        for at, (r, c) in enumerate(zip(self.figures(row), self.figures(column))):
            figures.append(self.fields[at].added(r, self.product(at, kind, c)))
        return self.point(figures)

    def tables(self):
        """For each kind the rows of what it has at all cells."""
        points = range(self.order)
        return {kind: [[self.has(kind, row, column) for column in points] for row in points]
                for kind in self.kinds}
