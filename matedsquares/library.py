"""Libraries: squares and questions under names, changes that are taken back, kept answers."""

from matedsquares.errors import (
    InvalidQuestion, MatedsquaresError, NameInUse, NothingToRedo, NothingToUndo, TooMany, UnknownName,
)
from matedsquares.mates import mate
from matedsquares.notation import format_square
from matedsquares.squares import GREATEST_LISTED, checked, listed, order, sign
from matedsquares.subsquares import spanned, switched

# The kinds of questions, and how many numbers stand behind each.
NUMBERS = {"order": (0,), "mate": (0,), "sign": (2,), "span": (0, 2, 4, 6)}
MOST_SPANNED = 200
MOST_TRIED = 20000


def decide(kind, tree, numbers):
    """Return the answer of a question about a square."""
    kept = checked(tree)
    need_question(kind, numbers)
    if kind == "order":
        return ("order", order(kept))
    if kind == "mate":
        return mate_answer(kept)
    try:
        return ("sign", sign(kept, *numbers)) if kind == "sign" else span_answer(kept, numbers)
    except InvalidQuestion:
        return ("refused",)


class Library:
    """Squares and questions, which are apart, under names, and the changes of them."""

    def __init__(self):
        self.decided = 0
        self.kept = 0
        self.trees = {}
        # For each name the kind, the name of the square and the numbers.
        self.asked = {}
        # Answers by the kind, the written form of the square and the numbers.
        self.known = {}
        # Changes, each as whether it is one of a square, the name, and what stood there before and
        # after, which is None where nothing stood.
        self.done = []
        self.undone = []

    def set_square(self, name, tree):
        """Set a square under a name."""
        self.change(True, name, checked(tree))

    def product(self, name, one, other):
        """Set the product of two squares of the library under a name."""
        first = self.square(one)
        self.set_square(name, ("product", first, self.square(other)))

    def turn(self, name, one, places):
        """Set a turned square of the library under a name."""
        self.set_square(name, ("turned", self.square(one), places))

    def switch(self, name, one, rows, column):
        """Set a square of the library with a ring of two rows exchanged under a name."""
        self.set_square(name, switched(self.square(one), rows[0], rows[1], column))

    def remove_square(self, name):
        """Remove a square that no question is about."""
        self.square(name)
        for _, one, _ in self.asked.values():
            if one == name:
                raise NameInUse(name)
        self.change(True, name, None)

    def ask(self, name, kind, one, numbers):
        """Ask a question about a square of the library, or replace the one of its name."""
        self.square(one)
        need_question(kind, numbers)
        self.change(False, name, (kind, one, tuple(numbers)))

    def drop(self, name):
        """Drop a question."""
        self.question(name)
        self.change(False, name, None)

    def undo(self):
        """Take back the last change that is not taken back."""
        if not self.done:
            raise NothingToUndo("no change to take back")
        self.undone.append(self.take_back())

    def redo(self):
        """Make the change again that was taken back last."""
        if not self.undone:
            raise NothingToRedo("no change to make again")
        change = self.undone.pop()
        self.done.append(change)
        self.put(change[0], change[1], change[3])

    def change_all(self, changes):
        """Make several changes one after another, or none of them if one raises an error."""
        many = len(self.done)
        undone = list(self.undone)
        try:
            for change in changes:
                self.make(change[0], change[1:])
        except MatedsquaresError:
            while len(self.done) > many:
                self.take_back()
            self.undone = undone
            raise

    def square_names(self):
        """Return the names of the squares, ascending."""
        return sorted(self.trees)

    def question_names(self):
        """Return the names of the questions, ascending."""
        return sorted(self.asked)

    def square(self, name):
        """Return the tree of a square."""
        if name not in self.trees:
            raise UnknownName(name)
        return self.trees[name]

    def question(self, name):
        """Return a question as its kind, the name of its square and its numbers."""
        if name not in self.asked:
            raise UnknownName(name)
        return self.asked[name]

    def answer(self, name):
        """Return the answer of a question."""
        kind, one, numbers = self.question(name)
        tree = self.square(one)
        # The written form tells the tree, and is not nested as deep as this may be.
        key = (kind, format_square(tree), numbers)
        if key in self.known:
            self.kept += 1
        else:
            self.known[key] = decide(kind, tree, numbers)
            self.decided += 1
        return self.known[key]

    def answers(self):
        """Return the names and the answers of all questions, by ascending names."""
        return [(name, self.answer(name)) for name in self.question_names()]

    def change(self, is_square, name, after):
        """Put a square or a question under a name, or take away what is there if it is None."""
        before = self.trees.get(name) if is_square else self.asked.get(name)
        self.done.append((is_square, name, before, after))
        self.undone = []
        self.put(is_square, name, after)

    def take_back(self):
        """Take back the last change, and return it."""
        change = self.done.pop()
        self.put(change[0], change[1], change[2])
        return change

    def put(self, is_square, name, value):
        place = self.trees if is_square else self.asked
        if value is not None:
            place[name] = value
        elif name in place:
            del place[name]

    def make(self, method, arguments):
        """Make the change that is told as the name of a method and its arguments."""
        if method == "set_square":
            self.set_square(*arguments)
        elif method == "product":
            self.product(*arguments)
        elif method == "turn":
            self.turn(*arguments)
        elif method == "switch":
            self.switch(*arguments)
        elif method == "remove_square":
            self.remove_square(*arguments)
        elif method == "ask":
            self.ask(*arguments)
        elif method == "drop":
            self.drop(*arguments)
        else:
            raise InvalidQuestion("no change of this name")


def need_question(kind, numbers):
    if kind not in NUMBERS or len(numbers) not in NUMBERS[kind]:
        raise InvalidQuestion("no kind of questions, or another number of numbers")


def mate_answer(tree):
    if order(tree) > GREATEST_LISTED:
        return ("refused",)
    rows = listed(tree)[1]
    try:
        found = mate(rows, limit=MOST_TRIED)
    except TooMany:
        return ("many", MOST_TRIED)
    return ("no",) if found is None else ("yes",)


def span_answer(tree, numbers):
    cells = [(numbers[at], numbers[at + 1]) for at in range(0, len(numbers), 2)]
    try:
        rows, _, _ = spanned(tree, cells, limit=MOST_SPANNED)
    except TooMany:
        return ("many", MOST_SPANNED)
    return ("span", len(rows))
