"""Libraries: points 60 to 64."""

import copy
import random
import unittest
from itertools import product

from matedsquares import library as module
from matedsquares.errors import (
    InvalidQuestion, InvalidSquare, MatedsquaresError, NameInUse, NothingToRedo, NothingToUndo, TooMany,
    UnknownName,
)
from matedsquares.library import Library, decide
from matedsquares.mates import mate
from matedsquares.squares import checked, listed, order, table
from matedsquares.subsquares import switched
from tests import naive, naive_subsquares
from tests.test_squares import NO_TREES, SKEW, SMALL, THREE, turned_often

BIG = ("sum", 10 ** 30, 3, 7)
TWO = ("listed", [[0, 1], [1, 0]])
FOUR = ("sum", 4, 1, 1)
NEAR_THE_LIMIT = [
    (((7, 5, 6, 0, 1, 3, 2, 4), (3, 0, 5, 2, 7, 4, 1, 6), (6, 4, 3, 7, 5, 1, 0, 2), (0, 3, 1, 6, 2, 7, 4, 5),
      (5, 1, 2, 4, 0, 6, 7, 3), (2, 6, 7, 5, 4, 0, 3, 1), (1, 7, 4, 3, 6, 2, 5, 0), (4, 2, 0, 1, 3, 5, 6, 7)),
     19983, ("no",)),
    (((2, 3, 1, 6, 0, 7, 5, 4), (7, 2, 6, 5, 1, 3, 4, 0), (1, 6, 4, 0, 7, 5, 2, 3), (5, 7, 3, 4, 6, 0, 1, 2),
      (3, 0, 2, 1, 5, 4, 6, 7), (0, 4, 5, 7, 2, 1, 3, 6), (6, 1, 0, 3, 4, 2, 7, 5), (4, 5, 7, 2, 3, 6, 0, 1)),
     20007, ("many", 20000)),
]
NO_QUESTIONS = [
    ("order", [0]), ("order", [0, 0]), ("mate", [0]), ("mate", [1, 2]), ("sign", []), ("sign", [0]),
    ("sign", [0, 0, 0]), ("sign", [0] * 4), ("span", [0]), ("span", [0] * 3), ("span", [0] * 5),
    ("span", [0] * 7), ("span", [0] * 8), ("", []), ("Order", []), ("size", []), ("row", [0, 0]),
    ("cell", [0, 0]), ("spans", [0, 0]), ("mates", []),
]


def state(library):
    """All that a library tells of its squares and questions."""
    return (
        {name: library.square(name) for name in library.square_names()},
        {name: library.question(name) for name in library.question_names()},
    )


def history(library):
    """All states that undo and redo lead to; the library is as before at the end."""
    undone = redone = 0
    states = [state(library)]
    while True:
        try:
            library.undo()
        except NothingToUndo:
            break
        undone += 1
        states.insert(0, state(library))
    for _ in range(undone):
        library.redo()
    while True:
        try:
            library.redo()
        except NothingToRedo:
            break
        redone += 1
        states.append(state(library))
    for _ in range(redone):
        library.undo()
    return undone, states


def filled():
    library = Library()
    library.set_square("s", FOUR)
    library.set_square("t", TWO)
    library.set_square("big", BIG)
    library.ask("m", "mate", "s", [])
    library.ask("s", "span", "big", [0, 0, 10 ** 29, 0])
    return library


class DecideTest(unittest.TestCase):
    def test_order(self):
        for tree in SMALL + [BIG, ("product", FOUR, SKEW)]:
            self.assertEqual(decide("order", tree, []), ("order", order(tree)))

    def test_sign(self):
        for tree in SMALL[::3]:
            rows = naive.rows_of(tree)
            for r, c in ((0, 0), (len(rows) - 1, 0), (len(rows) // 2, len(rows) - 1)):
                self.assertEqual(decide("sign", tree, [r, c]), ("sign", rows[r][c]))
        self.assertEqual(decide("sign", BIG, [1, 10 ** 30 - 1]), ("sign", 10 ** 30 - 4))
        self.assertEqual(decide("sign", FOUR, [3, 2]), ("sign", 1))

    def test_span(self):
        for at, tree in enumerate(SMALL):
            size = order(tree)
            numbers = [(7 * at) % size, at % size, (3 * at + 2) % size, 5 % size, size - 1, size // 2]
            for count in (0, 2, 4, 6):
                cells = list(zip(numbers[:count:2], numbers[1:count:2]))
                right = len(naive_subsquares.span_in_small(tree, cells)[0])
                self.assertEqual(decide("span", tree, numbers[:count]), ("span", right))
        for tree in (SKEW, ("listed", NEAR_THE_LIMIT[0][0]), ("listed", NEAR_THE_LIMIT[1][0])):
            for r, c in product(range(order(tree)), repeat=2):
                for numbers in ([0, 0, r, c], [1, 2, r, c], [r, c, 0, 3], [0, 1, r, c, 3, c]):
                    cells = list(zip(numbers[::2], numbers[1::2]))
                    right = len(naive_subsquares.span_in_small(checked(tree), cells)[0])
                    self.assertEqual(decide("span", tree, numbers), ("span", right))
        self.assertEqual(decide("span", BIG, []), ("span", 0))
        self.assertEqual(decide("span", BIG, [5, 5]), ("span", 1))
        self.assertEqual(decide("span", BIG, [0, 0, 10 ** 30 // 200, 0]), ("span", 200))
        for numbers in ([0, 0, 10 ** 30 // 250, 0], [0, 0, 1, 0], [0, 0, 0, 1, 7, 7]):
            self.assertEqual(decide("span", BIG, numbers), ("many", 200))
        self.assertEqual(decide("span", ("sum", 200, 1, 1), [0, 0, 1, 0]), ("span", 200))
        self.assertEqual(decide("span", ("sum", 201, 1, 1), [0, 0, 1, 0]), ("many", 200))

    def test_mate(self):
        for n in range(1, 12):
            for tree in (("sum", n, 1, 1), ("turned", ("sum", n, 1, 1), (2, 0, 1))):
                try:
                    right = ("yes",) if mate(table(tree), limit=20000) else ("no",)
                except TooMany:
                    right = ("many", 20000)
                self.assertEqual(decide("mate", tree, []), right)
                if right[0] != "many":
                    self.assertEqual(right == ("yes",), n % 2 == 1)
        self.assertEqual(decide("mate", ("field", 2, 2, 3), []), ("yes",))
        self.assertEqual(decide("mate", ("field", 2, 3, 3), []), ("yes",))
        self.assertEqual(decide("mate", SKEW, []), ("no",))
        self.assertEqual(decide("mate", TWO, []), ("no",))
        self.assertEqual(decide("mate", ("listed", [[0]]), []), ("yes",))
        self.assertEqual(decide("mate", ("sum", 12, 1, 1), []), ("many", 20000))

    def test_mate_at_the_limit(self):
        rng = random.Random(3)
        seen = set()
        for at in range(24):
            rows = naive.switched_often(table(("sum", 4 + at % 4, 1, 1)), rng)
            found, tried = naive.first_mate(rows)
            answer = decide("mate", ("listed", rows), [])
            seen.add(answer)
            right = ("many", 20000) if tried > 20000 else ("yes",) if found else ("no",)
            self.assertEqual(answer, right, tried)
        self.assertLessEqual({("yes",), ("no",)}, seen)
        for rows, tried, right in NEAR_THE_LIMIT:
            self.assertEqual(naive.first_mate(rows), (None, tried))
            self.assertEqual(decide("mate", ("listed", rows), []), right)

    def test_refused(self):
        for tree in (FOUR, TWO, SKEW, BIG, ("listed", [[0]])):
            size = order(tree)
            for wrong in (-1, size, size + 1, 10 ** 31):
                for kind, numbers in (
                        ("sign", [wrong, 0]), ("sign", [0, wrong]), ("span", [wrong, 0]), ("span", [0, wrong]),
                        ("span", [0, 0, 0, wrong]), ("span", [0, 0, 0, 0, wrong, 0])):
                    self.assertEqual(decide(kind, tree, numbers), ("refused",))
        for tree in (("sum", 13, 1, 1), BIG, ("product", FOUR, FOUR), ("field", 13, 1, 2)):
            self.assertEqual(decide("mate", tree, []), ("refused",))

    def test_errors(self):
        for tree in NO_TREES:
            for kind, numbers in [("order", []), ("sign", [0, 0]), ("span", [-1, 0]), *NO_QUESTIONS[::4]]:
                with self.assertRaises(InvalidSquare):
                    decide(kind, tree, numbers)
        for tree in (FOUR, BIG):
            for kind, numbers in NO_QUESTIONS:
                with self.assertRaises(InvalidQuestion):
                    decide(kind, tree, numbers)

    def test_nothing_that_is_passed_changes(self):
        tree, numbers = ("listed", [[0, 1], [1, 0]]), [0, 0, 1, 1]
        before = copy.deepcopy((tree, numbers))
        decide("span", tree, numbers), decide("mate", tree, []), decide("order", tree, [])
        self.assertEqual((tree, numbers), before)


class ChangesTest(unittest.TestCase):
    def test_nothing_in_it_at_first(self):
        library = Library()
        self.assertEqual((library.square_names(), library.question_names(), library.answers()), ([], [], []))
        self.assertEqual((library.decided, library.kept), (0, 0))
        self.assertLessEqual({"decided", "kept"}, set(vars(library)))

    def test_set_square(self):
        library = Library()
        self.assertIsNone(library.set_square("s", TWO))
        self.assertEqual(library.square("s"), ("listed", ((0, 1), (1, 0))))
        library.set_square("s", BIG)
        library.set_square("Not A Name!", ("turned", TWO, [2, 0, 1]))
        self.assertEqual(library.square("s"), BIG)
        self.assertEqual(library.square("Not A Name!"), checked(("turned", TWO, (2, 0, 1))))
        self.assertEqual(library.square_names(), ["Not A Name!", "s"])

    def test_product_turn_switch(self):
        library = filled()
        self.assertIsNone(library.product("p", "s", "t"))
        self.assertEqual(library.square("p"), checked(("product", FOUR, TWO)))
        library.product("s", "t", "s")
        self.assertEqual(library.square("s"), checked(("product", TWO, FOUR)))
        self.assertEqual(library.square("p"), checked(("product", FOUR, TWO)))
        self.assertIsNone(library.turn("u", "t", [1, 2, 0]))
        self.assertEqual(library.square("u"), checked(("turned", TWO, (1, 2, 0))))
        library.turn("t", "t", (0, 1, 2))
        self.assertEqual(library.square("t"), checked(("turned", TWO, (0, 1, 2))))
        library.set_square("f", FOUR)
        self.assertIsNone(library.switch("w", "f", [0, 2], 1))
        self.assertEqual(library.square("w"), switched(FOUR, 0, 2, 1))
        library.switch("f", "f", (1, 3), 0)
        self.assertEqual(library.square("f"), switched(FOUR, 1, 3, 0))
        self.assertEqual(library.square_names(), ["big", "f", "p", "s", "t", "u", "w"])

    def test_remove_ask_drop(self):
        library = filled()
        self.assertIsNone(library.remove_square("t"))
        self.assertEqual(library.square_names(), ["big", "s"])
        self.assertEqual(library.question("m"), ("mate", "s", ()))
        self.assertEqual(library.question("s"), ("span", "big", (0, 0, 10 ** 29, 0)))
        self.assertIsNone(library.ask("m", "sign", "big", [7, -5]))
        self.assertEqual(library.question("m"), ("sign", "big", (7, -5)))
        self.assertIsInstance(library.question("m")[2], tuple)
        library.remove_square("s")
        self.assertIsNone(library.drop("s"))
        library.drop("m")
        library.remove_square("big")
        self.assertEqual(state(library), ({}, {}))

    def test_names_of_squares_and_questions_are_apart(self):
        library = filled()
        self.assertEqual(library.square("s"), FOUR)
        self.assertEqual(library.question("s")[0], "span")
        with self.assertRaises(UnknownName):
            library.square("m")
        with self.assertRaises(UnknownName):
            library.question("t")
        with self.assertRaises(UnknownName):
            library.drop("big")
        with self.assertRaises(UnknownName):
            library.remove_square("m")
        library.drop("s")
        self.assertEqual(library.square("s"), FOUR)
        library.drop("m")
        library.remove_square("s")
        self.assertEqual(library.question_names(), [])

    def refused(self, library, error, attribute, change, *arguments):
        before, marks = copy.deepcopy(history(library)), (library.decided, library.kept)
        with self.assertRaises(error) as caught:
            getattr(library, change)(*arguments)
        self.assertIsInstance(caught.exception, MatedsquaresError)
        self.assertIsInstance(caught.exception, ValueError)
        if attribute is not None:
            self.assertEqual(caught.exception.name, attribute)
        self.assertEqual(history(library), before)
        with self.assertRaises(error):
            library.change_all([("set_square", "new", TWO), (change, *arguments), ("drop", "m")])
        self.assertEqual(history(library), before)
        self.assertEqual((library.decided, library.kept), marks)

    def test_refused_changes(self):
        library = filled()
        library.set_square("deep", turned_often(THREE, 11))
        library.set_square("wide", ("product", turned_often(TWO, 4), turned_often(TWO, 4)))
        library.drop("m")
        library.ask("n", "order", "t", [])
        library.remove_square("wide")
        library.set_square("gone", TWO)
        library.undo()
        library.undo()
        self.assertEqual(len(history(library)[1]), 12)
        for tree in NO_TREES[::9]:
            self.refused(library, InvalidSquare, None, "set_square", "s", tree)
            self.refused(library, InvalidSquare, None, "set_square", "new", tree)
        for one, other, unknown in (("x", "s", "x"), ("s", "y", "y"), ("x", "y", "x"), ("gone", "s", "gone"),
                                    ("n", "m", "n"), ("", "deep", "")):
            self.refused(library, UnknownName, unknown, "product", "s", one, other)
        for pair in (("deep", "t"), ("t", "deep"), ("big", "t"), ("t", "big"), ("deep", "deep"), ("wide", "s")):
            self.refused(library, InvalidSquare, None, "product", "s", *pair)
        for places in ((0, 1, 2), (0, 0, 0), ()):
            self.refused(library, UnknownName, "x", "turn", "s", "x", places)
            self.refused(library, InvalidSquare, None, "turn", "new", "deep", places)
        for places in ((0, 1, 1), [0, 1, 3], (1, 2, 3), [], (0, 1), (0, 1, 2, 0), [-1, 0, 1]):
            self.refused(library, InvalidSquare, None, "turn", "s", "t", places)
        for rows, column in (((0, 1), 0), ((0, 0), 0), ((-1, 0), 9)):
            self.refused(library, UnknownName, "x", "switch", "s", "x", rows, column)
            self.refused(library, InvalidQuestion, None, "switch", "s", "big", rows, column)
        for rows, column in (((0, 0), 0), ([3, 3], 1), ((0, 4), 0), ([4, 0], 0), ((-1, 0), 0), ((0, 1), 4),
                             ((0, 1), -1)):
            self.refused(library, InvalidQuestion, None, "switch", "new", "s", rows, column)
        for name in ("x", "m", "n", "gone", ""):
            self.refused(library, UnknownName, name, "remove_square", name)
        self.refused(library, NameInUse, "t", "remove_square", "t")
        self.refused(library, NameInUse, "big", "remove_square", "big")
        for kind, numbers in [("order", []), *NO_QUESTIONS[::3]]:
            self.refused(library, UnknownName, "x", "ask", "q", kind, "x", numbers)
        for kind, numbers in NO_QUESTIONS:
            self.refused(library, InvalidQuestion, None, "ask", "s", kind, "s", numbers)
        for name in ("x", "m", "t", "big", ""):
            self.refused(library, UnknownName, name, "drop", name)

    def test_unknown_names_are_told(self):
        library = filled()
        for method in (library.square, library.question, library.answer):
            with self.assertRaises(UnknownName) as caught:
                method("nobody")
            self.assertEqual(caught.exception.name, "nobody")
        self.assertEqual((library.decided, library.kept), (0, 0))

    def test_lists_that_are_passed(self):
        library = Library()
        rows, numbers, places, two = [[0, 1], [1, 0]], [0, 0], [1, 0, 2], [0, 1]
        changes = [("set_square", "s", ("listed", rows)), ("ask", "q", "span", "s", numbers),
                   ("turn", "t", "s", places), ("switch", "u", "s", two, 0)]
        before = copy.deepcopy(changes)
        library.change_all(changes)
        self.assertEqual(changes, before)
        right = copy.deepcopy(history(library))
        rows[0][0], rows[1] = 5, [7]
        numbers.append(1)
        numbers[0] = 9
        places[0], two[0] = 9, 9
        changes.clear()
        self.assertEqual(history(library), right)
        self.assertEqual(library.square("s"), ("listed", ((0, 1), (1, 0))))
        self.assertEqual(library.question("q"), ("span", "s", (0, 0)))
        self.assertEqual(library.square("t"), ("turned", library.square("s"), (1, 0, 2)))
        for method in (library.square_names, library.question_names, library.answers):
            method().clear()
        self.assertEqual((len(library.square_names()), len(library.answers())), (3, 1))


class UndoTest(unittest.TestCase):
    def test_nothing_to_undo_or_redo(self):
        library = Library()
        for _ in range(2):
            with self.assertRaises(NothingToUndo):
                library.undo()
            with self.assertRaises(NothingToRedo):
                library.redo()
        self.assertEqual(history(library), (0, [({}, {})]))
        library.set_square("s", TWO)
        with self.assertRaises(NothingToRedo):
            library.redo()
        self.assertIsNone(library.undo())
        with self.assertRaises(NothingToUndo):
            library.undo()
        self.assertEqual(library.square_names(), [])
        self.assertIsNone(library.redo())
        self.assertEqual(library.square_names(), ["s"])

    def test_all_states_come_back(self):
        library = Library()
        states = [state(library)]
        for change in (
                ("set_square", "s", FOUR), ("set_square", "t", TWO), ("set_square", "s", THREE),
                ("set_square", "s", THREE), ("ask", "q", "sign", "s", [0, 1]), ("product", "s", "s", "t"),
                ("ask", "q", "sign", "s", [0, 1]), ("ask", "q", "mate", "t", []), ("turn", "u", "t", (1, 0, 2)),
                ("switch", "u", "s", [0, 1], 0), ("drop", "q"), ("remove_square", "t"), ("remove_square", "s")):
            getattr(library, change[0])(*change[1:])
            states.append(state(library))
        self.assertEqual(history(library), (13, states))
        for back in (3, 5, 5):
            for _ in range(back):
                library.undo()
        self.assertEqual(state(library), states[0])
        for at in range(1, 9):
            library.redo()
            self.assertEqual(state(library), states[at])
        with self.assertRaises(InvalidSquare):
            library.set_square("s", ())
        self.assertEqual(history(library), (8, states))
        library.set_square("v", TWO)
        self.assertEqual(history(library), (9, [*states[:9], state(library)]))

    def test_change_all(self):
        library = filled()
        before = state(library)
        library.undo()
        changes = [("set_square", "a", SKEW), ("product", "b", "a", "t"), ("turn", "c", "b", [2, 1, 0]),
                   ("switch", "d", "b", (0, 1), 3), ("ask", "q", "order", "c", []), ("drop", "q"),
                   ("remove_square", "c")]
        one_by_one = filled()
        one_by_one.undo()
        for change in changes:
            getattr(one_by_one, change[0])(*change[1:])
        self.assertIsNone(library.change_all(changes))
        self.assertEqual(history(library), history(one_by_one))
        self.assertEqual(history(library)[0], 11)
        self.assertNotIn(before, history(library)[1])

    def test_change_all_that_fails_late(self):
        for wrong in (("drop", "nobody"), ("set_square", "s", ()), ("remove_square", "s"),
                      ("ask", "q", "size", "s", []), ("turn", "s", "nobody", (0, 1, 2)),
                      ("switch", "s", "s", (0, 0), 0), ("product", "s", "big", "big")):
            library = filled()
            library.set_square("s", SKEW)
            library.undo()
            library.undo()
            before = copy.deepcopy(history(library))
            self.assertEqual(len(before[1]), 7)
            for ahead in ([], [("set_square", "s", TWO)], [("drop", "m"), ("set_square", "n", TWO),
                          ("ask", "m", "order", "n", []), ("remove_square", "s")]):
                with self.assertRaises(MatedsquaresError):
                    library.change_all([*ahead, wrong, ("set_square", "z", TWO)])
                self.assertEqual(history(library), before)

    def test_change_all_with_no_change(self):
        library = filled()
        library.undo()
        before = history(library)
        self.assertIsNone(library.change_all([]))
        self.assertEqual(history(library), before)
        empty = Library()
        empty.change_all([])
        with self.assertRaises(NothingToUndo):
            empty.undo()

    def test_many_changes_beside_a_plain_model(self):
        rng = random.Random(9)
        for _ in range(6):
            library, model = Library(), Model()
            for _ in range(120):
                change = some_change(rng)
                self.assertEqual(outcome(library, change), outcome(model, change), change)
                self.assertEqual(state(library), model.states[model.at])
                self.assertEqual((library.decided, library.kept), (model.decided, model.kept))
            self.assertEqual(history(library), (model.at, model.states))


class Model:
    """A library that keeps all states, and all answers by the text that Python has for them."""

    def __init__(self):
        self.states = [({}, {})]
        self.at = 0
        self.known = {}
        self.decided = self.kept = 0

    def do(self, change):
        squares, questions = copy.deepcopy(self.states[self.at])
        method, *arguments = change
        if method in ("product", "turn", "switch", "set_square"):
            name, *told = arguments
            for one in told[:{"product": 2, "set_square": 0}.get(method, 1)]:
                if one not in squares:
                    raise UnknownName(one)
            if method == "product":
                squares[name] = checked(("product", squares[told[0]], squares[told[1]]))
            elif method == "turn":
                squares[name] = checked(("turned", squares[told[0]], told[1]))
            elif method == "switch":
                squares[name] = switched(squares[told[0]], *told[1], told[2])
            else:
                squares[name] = checked(told[0])
        elif method == "remove_square":
            if arguments[0] not in squares:
                raise UnknownName(arguments[0])
            if arguments[0] in [one for _, one, _ in questions.values()]:
                raise NameInUse(arguments[0])
            del squares[arguments[0]]
        elif method == "ask":
            name, kind, one, numbers = arguments
            if one not in squares:
                raise UnknownName(one)
            if len(numbers) not in {"order": [0], "mate": [0], "sign": [2], "span": [0, 2, 4, 6]}.get(kind, []):
                raise InvalidQuestion("")
            questions[name] = (kind, one, tuple(numbers))
        elif method == "drop":
            if arguments[0] not in questions:
                raise UnknownName(arguments[0])
            del questions[arguments[0]]
        elif method == "undo":
            if self.at == 0:
                raise NothingToUndo("")
            self.at -= 1
            return
        elif method == "redo":
            if self.at + 1 == len(self.states):
                raise NothingToRedo("")
            self.at += 1
            return
        elif method == "answer":
            if arguments[0] not in questions:
                raise UnknownName(arguments[0])
            kind, one, numbers = questions[arguments[0]]
            key = repr((kind, squares[one], numbers))
            self.kept += key in self.known
            self.decided += key not in self.known
            self.known.setdefault(key, decide(kind, squares[one], list(numbers)))
            return self.known[key]
        elif method == "answers":
            return [(name, self.do(("answer", name))) for name in sorted(questions)]
        elif method == "change_all":
            before = self.at, list(self.states)
            try:
                for own in arguments[0]:
                    self.do(own)
            except MatedsquaresError:
                self.at, self.states = before
                raise
            return
        self.states = self.states[:self.at + 1] + [(squares, questions)]
        self.at += 1


def outcome(library, change):
    """What a change returns, or its error with its attributes."""
    try:
        if isinstance(library, Model):
            return library.do(change)
        return getattr(library, change[0])(*change[1:])
    except MatedsquaresError as error:
        return type(error), vars(error)


def some_change(rng, within=False):
    name, one, other = (rng.choice("abc") for _ in range(3))
    numbers = [rng.randrange(-1, 4) for _ in range(rng.choice([0, 0, 2, 2, 3, 4]))]
    changes = [
        ("set_square", name, rng.choice([TWO, FOUR, THREE, ("sum", 3, 0, 1)])), ("set_square", name, TWO),
        ("product", name, one, other), ("turn", name, one, [rng.randrange(3), 1, 2]),
        ("switch", name, one, (rng.randrange(3), rng.randrange(3)), 1), ("remove_square", name),
        ("ask", name, rng.choice(["order", "mate"]), one, numbers if rng.random() < 0.2 else []),
        ("ask", name, rng.choice(["sign", "span"]), one, numbers), ("drop", name),
    ]
    if not within:
        changes += [("undo",), ("undo",), ("undo",), ("redo",), ("redo",), ("answer", name), ("answers",),
                    ("change_all", [some_change(rng, True) for _ in range(rng.randrange(4))])]
    return rng.choice(changes)


class AnswersTest(unittest.TestCase):
    def test_answers(self):
        library = filled()
        library.ask("c", "sign", "s", [3, 3])
        library.ask("d", "sign", "s", [3, 4])
        library.ask("e", "order", "big", [])
        library.ask("f", "mate", "big", [])
        library.ask("g", "span", "big", [0, 0, 1, 1])
        right = [("c", ("sign", 2)), ("d", ("refused",)), ("e", ("order", 10 ** 30)), ("f", ("refused",)),
                 ("g", ("many", 200)), ("m", ("no",)), ("s", ("span", 10))]
        self.assertEqual(library.answers(), right)
        self.assertEqual((library.decided, library.kept), (7, 0))
        self.assertEqual(library.answers(), right)
        self.assertEqual((library.decided, library.kept), (7, 7))
        for name, answer in right:
            self.assertEqual(library.answer(name), answer)
            self.assertIsInstance(answer, tuple)
        self.assertEqual((library.decided, library.kept), (7, 14))

    def marks(self, library, *names):
        for name in names:
            library.answer(name)
        return library.decided, library.kept

    def test_counts_whatever_the_names_are(self):
        library = filled()
        self.assertEqual(self.marks(library, "m"), (1, 0))
        library.set_square("copy", ("sum", 4, 1, 1))
        library.ask("again", "mate", "copy", [])
        self.assertEqual(self.marks(library, "again", "m"), (1, 2))
        # The same cells, but another tree.
        library.set_square("copy", listed(FOUR))
        self.assertEqual(self.marks(library, "again"), (2, 2))
        library.ask("again", "order", "copy", [])
        self.assertEqual(self.marks(library, "again"), (3, 2))
        library.ask("x", "sign", "s", [0, 1])
        library.ask("y", "sign", "s", [1, 0])
        self.assertEqual(self.marks(library, "x", "y"), (5, 2))
        library.ask("z", "span", "s", [0, 1])
        self.assertEqual(self.marks(library, "z", "x"), (6, 3))

    def test_counts_of_listed_ones_told_as_lists_and_tuples(self):
        library = Library()
        for name, tree in (("a", TWO), ("b", ("listed", ((0, 1), (1, 0)))), ("c", ("listed", ([0, 1], (1, 0))))):
            library.set_square(name, tree)
            library.ask(name, "mate", name, [])
        self.assertEqual(library.answers(), [(name, ("no",)) for name in "abc"])
        self.assertEqual((library.decided, library.kept), (1, 2))

    def test_counts_behind_undo_and_redo(self):
        library = filled()
        self.assertEqual(self.marks(library, "m"), (1, 0))
        library.set_square("s", SKEW)
        self.assertEqual(self.marks(library, "m"), (2, 0))
        library.undo()
        self.assertEqual(self.marks(library, "m"), (2, 1))
        library.redo()
        self.assertEqual(self.marks(library, "m"), (2, 2))
        library.drop("m")
        library.ask("m", "mate", "s", [])
        self.assertEqual(self.marks(library, "m"), (2, 3))
        library.drop("m")
        library.remove_square("s")
        library.set_square("new", SKEW)
        library.ask("q", "mate", "new", [])
        self.assertEqual(self.marks(library, "q"), (2, 4))
        while library.square_names():
            library.undo()
        self.assertEqual((library.decided, library.kept), (2, 4))
        with self.assertRaises(MatedsquaresError):
            library.change_all([("drop", "m")])
        self.assertEqual((library.decided, library.kept), (2, 4))

    def test_refused_and_many_are_kept_too(self):
        library = filled()
        library.ask("r", "sign", "s", [4, 0])
        library.ask("v", "span", "big", [0, 0, 1, 0])
        self.assertEqual(self.marks(library, "r", "v", "r", "v"), (2, 2))

    def test_unknown_names_count_for_nothing(self):
        library = filled()
        self.marks(library, "m", "m")
        for name in ("t", "nobody", ""):
            with self.assertRaises(UnknownName):
                library.answer(name)
        self.assertEqual((library.decided, library.kept), (1, 1))

    def test_trees_of_many_parts(self):
        library = Library()
        library.set_square("a", turned_often(TWO, 11))
        library.set_square("b", turned_often(TWO, 10))
        for name in "ab":
            library.ask(name, "mate", name, [])
        self.assertEqual(self.marks(library, "a", "b", "a"), (2, 1))

    def test_two_libraries_are_apart(self):
        one, other = filled(), Library()
        self.marks(one, "m")
        self.assertEqual(state(other), ({}, {}))
        self.assertEqual((other.decided, other.kept), (0, 0))

    def test_interface(self):
        self.assertEqual(module.decide.__module__, "matedsquares.library")
        for name in ("set_square", "product", "turn", "switch", "remove_square", "ask", "drop", "undo", "redo",
                     "change_all", "square_names", "question_names", "square", "question", "answer", "answers"):
            self.assertIn(name, vars(Library))


if __name__ == "__main__":
    unittest.main()
