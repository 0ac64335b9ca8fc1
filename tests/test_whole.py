"""What the document promises over the whole program (point 1 and the interface): names, arguments
and their defaults; no function changes an argument; lists that are returned are new ones; the same
call gives the same answer, whatever was called in between."""

import copy
import doctest
import importlib
import inspect
import pathlib
import random
import unittest

from matedsquares.errors import MatedsquaresError
from matedsquares.families import Family
from matedsquares.library import Library
from matedsquares.session import Session

INTERFACE = {
    "squares": "is_square_tree(tree); checked(tree); order(tree); part_count(tree); sign(tree, r, c); "
               "row_of(tree, c, s); column_of(tree, r, s); table(tree); listed(tree)",
    "notation": "format_square(tree); parse_square(text)",
    "fields": "is_field(prime, degree); polynomial(prime, degree); added(prime, degree, one, other); "
              "less(prime, degree, one, other); product(prime, degree, one, other); inverse(prime, degree, one); "
              "power(prime, degree, one, times)",
    "elements": "divided(prime, degree, one, other); order_of(prime, degree, one); generator(prime, degree); "
                "conjugates(prime, degree, one); trace(prime, degree, one); norm(prime, degree, one); "
                "least_polynomial(prime, degree, one); is_square(prime, degree, one); square_root(prime, degree, one)",
    "transversals": "kept_rows(rows); is_transversal(rows, columns); transversals(rows, *, limit=200000); "
                    "transversal_count(rows, *, limit=200000); first_transversal(rows, *, limit=200000); "
                    "through(rows, row, column, *, limit=200000)",
    "mates": "first_repeat(one, other); are_mates(one, other); mate(rows, *, limit=200000); mate_by(rows, parts); "
             "parts_of(rows, other)",
    "refusals": "none_paper(rows, *, limit=20000); check_no_mate(rows, paper)",
    "judged": "family_fault(squares); is_family(squares)",
    "families": "Family(parts); parts_for(order)",
    "meetings": "agreement(family, cell, other); square_with(family, row, column, sign); "
                "transversal(family, number, sign); diagonal(family, number); tree_of(family, number)",
    "names": "is_name(text)",
    "subsquares": "spanned(tree, cells, *, limit=200); is_subsquare(tree, rows, columns); taken_out(tree, cells); "
                  "subsquares(tree, size, *, limit=20000); rings(tree, one, other); switched(tree, one, other, column)",
    "library": "decide(kind, tree, numbers); Library()",
    "commands": "split_words(line); is_command(words)",
    "session": "Session()",
    "texts": "squares_text(squares); parse_squares(text); paper_text(rows, *, limit=200000); parse_paper(text); "
             "check_text(rows, text)",
    "renaming": "renamed(tree, names); undone(names); one_after_another(first, second); standard(tree); "
                "standard_names(tree); is_standard(tree); same_standard(one, other)",
    "likenesses": "is_likeness(one, other, maps); likenesses(one, other, *, limit=2000); "
                  "likeness_count(one, other, *, limit=2000); likeness(one, other); are_alike(one, other); "
                  "led(tree, maps)",
    "counts": "rounds(tree, word, one, other); all_rounds(tree, word); twos(tree); two_count(tree); "
              "counts_of(tree); shows_unlike(one, other)",
    "arrays": "array_of(squares); array_fault(order, rows); squares_of(order, rows)",
    "nets": "net_of(squares); net_fault(order, classes); squares_of_net(order, classes)",
    "codes": "agreements(one, other); code_fault(order, words); told_again(squares, word); righted(squares, word); "
             "wrong_place(squares, word)",
}
METHODS = {
    Family: "sign(self, number, row, column); row_for(self, number, column, sign); "
            "column_for(self, number, row, sign); cell(self, one, other); told(self, one, other, wanted); "
            "word(self, row, column, kinds)",
    Library: "set_square(self, name, tree); product(self, name, one, other); turn(self, name, one, places); "
             "switch(self, name, one, rows, column); remove_square(self, name); ask(self, name, kind, one, numbers); "
             "drop(self, name); undo(self); redo(self); change_all(self, changes); square_names(self); "
             "question_names(self); square(self, name); question(self, name); answer(self, name); answers(self)",
    Session: "run(self, text)",
}

ROWS = [[0, 1, 2], [1, 2, 0], [2, 0, 1]]
MATE = [[0, 1, 2], [2, 0, 1], [1, 2, 0]]
TWO = [[0, 1], [1, 0]]
TREE = ("product", ("listed", TWO), ("turned", ("listed", ROWS), [2, 0, 1]))
SUM = ("sum", 6, 1, 5)
NAMES = [[1, 0, 2], [0, 1, 2], [2, 1, 0]]
FAMILY = Family([[2, 2], [3, 1]])
NINE = [[0, 0, 0, 0], [0, 1, 1, 1], [0, 2, 2, 2], [1, 0, 1, 2], [1, 1, 2, 0], [1, 2, 0, 1], [2, 0, 2, 1],
        [2, 1, 0, 2], [2, 2, 1, 0]]
NET = [[[0, 1], [2, 3]], [[0, 2], [1, 3]], [[0, 3], [1, 2]]]

# For each module the calls, each with the name of a function and what is passed.
CALLS = {
    "squares": [
        ("is_square_tree", TREE), ("is_square_tree", ("listed", [[0], [1]])), ("checked", TREE), ("order", TREE),
        ("part_count", TREE), ("sign", TREE, 5, 4), ("row_of", TREE, 5, 4), ("column_of", TREE, 5, 4), ("table", TREE),
        ("listed", TREE), ("checked", ("listed", [[1]])), ("sign", TREE, 6, 0)],
    "notation": [("format_square", TREE), ("parse_square", "square\nlisted 2\nrow 0 1\nrow 1 0"), ("parse_square", "")],
    "fields": [
        ("is_field", 2, 3), ("polynomial", 2, 3), ("added", 3, 2, 5, 7), ("less", 3, 2, 5, 7), ("product", 2, 3, 6, 5),
        ("inverse", 3, 2, 4), ("power", 7, 1, 3, -1), ("inverse", 3, 2, 0)],
    "elements": [
        ("divided", 3, 2, 4, 7), ("order_of", 3, 2, 4), ("generator", 3, 2), ("conjugates", 2, 3, 2), ("trace", 3, 2, 4),
        ("norm", 3, 2, 4), ("least_polynomial", 2, 2, 3), ("is_square", 7, 1, 2), ("square_root", 7, 1, 2)],
    "transversals": [
        ("kept_rows", ROWS), ("is_transversal", ROWS, [0, 1, 2]), ("transversals", ROWS), ("transversal_count", ROWS),
        ("first_transversal", ROWS), ("through", ROWS, 1, 1), ("through", ROWS, 3, 1), ("kept_rows", [[0, 1]])],
    "mates": [
        ("first_repeat", ROWS, ROWS), ("are_mates", ROWS, MATE), ("mate", ROWS), ("mate", TWO),
        ("mate_by", ROWS, [[0, 1, 2], [1, 2, 0], [2, 0, 1]]), ("mate_by", ROWS, [[0, 1, 2]]), ("parts_of", ROWS, MATE)],
    "refusals": [("none_paper", TWO), ("none_paper", ROWS), ("check_no_mate", TWO, [["cell", 1, 0]])],
    "judged": [("family_fault", [ROWS, MATE, ROWS]), ("is_family", [ROWS, MATE]), ("is_family", [ROWS, TWO])],
    "families": [("parts_for", 360), ("parts_for", 1)],
    "meetings": [
        ("agreement", FAMILY, [0, 1], [1, 0]), ("square_with", FAMILY, 2, 3, 0), ("transversal", FAMILY, 2, 4),
        ("diagonal", FAMILY, 2), ("tree_of", FAMILY, 2), ("agreement", FAMILY, [0, 1], [0, 1])],
    "names": [("is_name", "a1")],
    "subsquares": [
        ("spanned", TREE, [[0, 0], [3, 0]]), ("is_subsquare", TREE, [3, 0, 3], [0, 3]), ("taken_out", TREE, [[0, 0], [3, 0]]),
        ("subsquares", TREE, 2), ("rings", TREE, 0, 3), ("switched", TREE, 0, 3, 1), ("rings", TREE, 3, 3)],
    "library": [
        ("decide", "order", TREE, []), ("decide", "mate", TREE, []), ("decide", "sign", TREE, [2, 3]),
        ("decide", "span", TREE, [0, 0, 1, 1]), ("decide", "sign", TREE, [])],
    "commands": [("split_words", " a  b "), ("is_command", ["ask", "q", "span", "s", "0", "0"])],
    "texts": [
        ("squares_text", [ROWS, TWO]), ("parse_squares", "squares\nlisted 2\nrow 0 1\nrow 1 0"), ("paper_text", ROWS),
        ("paper_text", TWO), ("parse_paper", "mate\nrow 0 1"), ("parse_paper", "none\ncell 0 1"),
        ("check_text", ROWS, "mate\nrow 0 1 2\nrow 2 0 1\nrow 1 2 0"), ("parse_paper", "")],
    "renaming": [
        ("renamed", ("listed", ROWS), NAMES), ("undone", NAMES), ("one_after_another", NAMES, NAMES), ("standard", TREE),
        ("standard_names", TREE), ("is_standard", TREE), ("same_standard", TREE, SUM), ("undone", [[0], [0]])],
    "likenesses": [
        ("is_likeness", ("listed", ROWS), ("listed", MATE), NAMES), ("likenesses", ("listed", ROWS), ("listed", MATE)),
        ("likeness_count", TREE, SUM), ("likeness", TREE, SUM), ("are_alike", TREE, SUM), ("led", ("listed", ROWS), NAMES),
        ("led", ("listed", TWO), NAMES)],
    "counts": [
        ("rounds", TREE, "row", 0, 1), ("all_rounds", TREE, "sign"), ("twos", TREE), ("two_count", TREE),
        ("counts_of", TREE), ("shows_unlike", TREE, SUM), ("rounds", TREE, "rows", 0, 1)],
    "arrays": [
        ("array_of", [ROWS, MATE]), ("array_fault", 3, NINE), ("array_fault", 3, NINE[:8] + NINE[:1]),
        ("squares_of", 3, NINE), ("squares_of", 2, NINE)],
    "nets": [
        ("net_of", [ROWS, MATE]), ("net_fault", 2, NET), ("net_fault", 2, NET + NET[:1]), ("squares_of_net", 2, NET),
        ("squares_of_net", 2, NET[:1])],
    "codes": [
        ("agreements", [0, 1, 2], [0, 2, 2]), ("code_fault", 3, NINE), ("code_fault", 3, NINE[:8] + NINE[:1]),
        ("told_again", [ROWS, MATE], [None, 1, None, 0]), ("righted", [ROWS, MATE], [0, 1, 1, 2]),
        ("wrong_place", [ROWS, MATE], [0, 1, 1, 2]), ("wrong_place", [ROWS, MATE], [0, 1, 1])],
}
METHOD_CALLS = [
    ("sign", 2, 5, 3), ("row_for", 2, 3, 4), ("column_for", 2, 5, 4), ("cell", [1, 7], [2, 4]),
    ("told", [-1, 3], [0, 5], 1), ("word", 5, 3, [-1, 0, 1, 2]), ("cell", [1, 7], [1, 7]),
]


def all_calls():
    calls = [(getattr(importlib.import_module("matedsquares." + name), function), tuple(passed))
             for name in CALLS for function, *passed in CALLS[name]]
    return calls + [(getattr(FAMILY, method), tuple(passed)) for method, *passed in METHOD_CALLS]


def outcome(function, passed):
    try:
        return function(*passed)
    except MatedsquaresError as error:
        return type(error), vars(error)


def spoil(value):
    """Empty all lists in a value."""
    if isinstance(value, (list, tuple)):
        for part in value:
            spoil(part)
    if isinstance(value, list):
        value.clear()


def bare(passed):
    """What is passed, without the family, which has no lists."""
    return [value for value in passed if not isinstance(value, Family)]


class WholeTest(unittest.TestCase):
    def test_names_and_arguments(self):
        for name, told in INTERFACE.items():
            module = importlib.import_module("matedsquares." + name)
            for form in told.split("; "):
                function = getattr(module, form.split("(")[0])
                self.assertEqual(function.__module__, "matedsquares." + name)
                self.assertEqual(function.__name__ + str(inspect.signature(function)), form)
        for kind, told in METHODS.items():
            for form in told.split("; "):
                method = vars(kind)[form.split("(")[0]]
                self.assertEqual(method.__name__ + str(inspect.signature(method)), form)

    def test_every_function_is_called_here(self):
        for name, told in INTERFACE.items():
            functions = {form.split("(")[0] for form in told.split("; ")}
            called = {call[0] for call in CALLS.get(name, [])}
            self.assertEqual(functions - called, functions & {"Family", "Library", "Session"})

    def test_no_argument_is_changed(self):
        for function, passed in all_calls():
            before = copy.deepcopy(bare(passed))
            state = repr(vars(FAMILY))
            outcome(function, passed)
            self.assertEqual(bare(passed), before, function)
            self.assertEqual(repr(vars(FAMILY)), state, function)

    def test_same_call_same_answer_in_any_order(self):
        calls = all_calls()
        right = [repr(outcome(*call)) for call in calls]
        rng = random.Random(1)
        for _ in range(3):
            for at in rng.sample(range(len(calls)), len(calls)):
                found = outcome(*calls[at])
                self.assertEqual(repr(found), right[at], calls[at])
                spoil(found)

    def test_returned_lists_are_apart_from_what_is_passed(self):
        for function, passed in all_calls():
            own = [value if isinstance(value, Family) else copy.deepcopy(value) for value in passed]
            spoil(outcome(function, own))
            self.assertEqual(bare(own), bare(list(passed)), function)

    def test_what_is_kept_is_a_copy(self):
        parts = [[2, 2], [3, 1]]
        family = Family(parts)
        right = family.sign(2, 5, 4)
        spoil(parts)
        self.assertEqual((family.parts, family.order, family.many), (((2, 2), (3, 1)), 12, 2))
        self.assertEqual(family.sign(2, 5, 4), right)
        library = Library()
        tree = copy.deepcopy(TREE)
        library.set_square("s", tree)
        numbers = [0, 0, 3, 0]
        library.ask("q", "span", "s", numbers)
        spoil((tree, numbers))
        self.assertEqual(library.answers(), [("q", ("span", 2))])
        spoil(library.answers())
        self.assertEqual(library.answer("q"), ("span", 2))

    def test_examples_of_the_readme(self):
        text = (pathlib.Path(__file__).resolve().parent.parent / "README.md").read_text().replace("```", "")
        examples = doctest.DocTestParser().get_doctest(text, {}, "README.md", None, 0)
        self.assertGreater(len(examples.examples), 30)
        self.assertEqual(doctest.DocTestRunner().run(examples).failed, 0)

    def test_sessions_and_libraries_are_apart(self):
        text = "square s\nlisted 2\nrow 0 1\nrow 1 0\nend\nask q mate s\nanswers\nprint s"
        right = Session().run(text)
        other = Session()
        spoil(other.run(text))
        self.assertEqual(other.run("undo\nundo\nundo"), ["ok", "ok", "line 3: nothing to undo"])
        self.assertEqual(Session().run(text), right)
        self.assertEqual(Library().square_names(), [])


if __name__ == "__main__":
    unittest.main()
