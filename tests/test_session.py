"""Sessions: points 65 to 69."""

import random
import re
import unittest

from matedsquares.errors import (
    InvalidNotation, InvalidQuestion, InvalidSquare, MatedsquaresError, NameInUse, NothingToRedo,
    NothingToUndo, UnknownName,
)
from matedsquares.library import Library
from matedsquares.notation import format_square, parse_square
from matedsquares.session import Session
from tests.test_commands import COMMANDS, NO_NUMBERS, filled
from tests.test_library import history, state

N = "([a-z][a-z0-9]{0,11})"
K = "(0|[1-9][0-9]{0,30})"
SPAN = f"((?: {K} {K}){{0,3}})"

FILLED = """square s
sum 4 1 1
end
square t
listed 2
row 0 1
row 1 0
end
square big
sum 1000000000000000000000000000000 3 7
end
ask m mate s
ask s span big 0 0 100000000000000000000000000000 0"""


def filled_session():
    session = Session()
    assert session.run(FILLED) == ["ok"] * 8
    return session


def form(words):
    return re.compile(words.replace("N", N).replace("K", K))


def answer_of(name, answer):
    return name + ":" + "".join(f" {part}" for part in answer)


def names_of(word, names):
    return [word + "".join(" " + name for name in names)]


def asked(library, name, kind, one, numbers=""):
    library.ask(name, kind, one, [int(word) for word in numbers.split()])


# Each form of a command with what it does to a library, which is what it answers but for None.
DOINGS = [
    ("product N N N", lambda library, *names: library.product(*names)),
    ("turn N N K K K", lambda library, n, o, *k: library.turn(n, o, [int(x) for x in k])),
    ("switch N N K K K", lambda library, n, o, i, j, c: library.switch(n, o, [int(i), int(j)], int(c))),
    ("remove N", lambda library, n: library.remove_square(n)),
    ("ask N (order|mate) N", asked),
    ("ask N (sign) N (K K)", lambda library, n, kind, o, both, *_: asked(library, n, kind, o, both)),
    ("drop N", lambda library, n: library.drop(n)),
    ("answer N", lambda library, n: [answer_of(n, library.answer(n))]),
    ("answers", lambda library: [answer_of(*pair) for pair in library.answers()]),
    ("print N", lambda library, n: format_square(library.square(n)).split("\n")),
    ("squares", lambda library: names_of("squares:", library.square_names())),
    ("questions", lambda library: names_of("questions:", library.question_names())),
    ("undo", lambda library: library.undo()),
    ("redo", lambda library: library.redo()),
]
FAULTS = {
    InvalidSquare: "invalid square", InvalidQuestion: "invalid question",
    NothingToUndo: "nothing to undo", NothingToRedo: "nothing to redo",
}


class PlainSession:
    """A session by the words of the points 65 to 69, over a Library that its methods use."""

    def __init__(self):
        self.library = Library()
        self.block = None

    def run(self, text):
        answers = []
        for at, line in enumerate(text.split("\n")):
            words = " ".join(re.findall("[^ ]+", line))
            if words:
                answers += self.told(f"line {at + 1}: ", words)
        return answers

    def told(self, ahead, words):
        try:
            return self.done(words)
        except UnknownName as error:
            return [f"{ahead}unknown name {error.name}"]
        except NameInUse as error:
            return [f"{ahead}name in use {error.name}"]
        except InvalidNotation as error:
            return [f"{ahead}invalid notation {error.line - 1}"]
        except KeyError:
            return [f"{ahead}invalid command"]
        except MatedsquaresError as error:
            return [ahead + FAULTS[type(error)]]

    def done(self, words):
        if self.block:
            if words != "end":
                self.block.append(words)
                return []
            name, *lines = self.block
            self.block = None
            self.library.set_square(name, parse_square("\n".join(["square"] + lines)))
            return ["ok"]
        if form("square N").fullmatch(words):
            self.block = words.split()[1:]
            return ["ok"]
        spanning = re.fullmatch(f"ask {N} span {N}{SPAN}", words)
        if spanning:
            asked(self.library, spanning[1], "span", spanning[2], spanning[3])
            return ["ok"]
        for told, doing in DOINGS:
            found = form(told).fullmatch(words)
            if found:
                answers = doing(self.library, *found.groups())
                return ["ok"] if answers is None else answers
        raise KeyError


class SessionTest(unittest.TestCase):
    def answered(self, session, text, *right):
        self.assertEqual(session.run(text), list(right), text)

    def test_example(self):
        self.answered(
            Session(),
            "square s\nsum 4 1 1\nend\nask m mate s\nask p span s 0 0 1 2\nanswers\nswitch t s 0 2 1\nprint t",
            "ok", "ok", "ok", "ok", "m: no", "p: span 4", "ok", "square", "listed 4", "row 0 3 2 1",
            "row 1 2 3 0", "row 2 1 0 3", "row 3 0 1 2")

    def test_an_empty_library_at_first(self):
        session = Session()
        self.assertIsInstance(session.library, Library)
        self.assertEqual(state(session.library), ({}, {}))
        self.assertIn("library", vars(session))
        self.assertIn("run", vars(Session))
        self.answered(session, "squares\nquestions\nanswers", "squares:", "questions:")
        self.assertIsNot(Session().library, session.library)

    def test_lines_without_words(self):
        for text in ("", " ", "\n", "   \n\n  ", "\n" * 9):
            self.answered(Session(), text)
        self.answered(Session(), "\n\n  \nno\n \n  squares  \nnone", "line 4: invalid command", "squares:",
                      "line 7: invalid command")

    def test_lines_are_counted_in_each_call(self):
        session = Session()
        for _ in range(2):
            self.answered(session, "x\n\ny", "line 1: invalid command", "line 3: invalid command")

    def test_several_spaces(self):
        session = Session()
        self.answered(session, "  square   s  \n   sum  3 1   1 \n  end ", "ok", "ok")
        self.answered(session, " ask  q   span s  0  0 1   1\n  answer   q", "ok", "q: span 3")
        self.assertEqual(session.library.question("q"), ("span", "s", (0, 0, 1, 1)))

    def test_other_signs_than_spaces_and_newlines_part_no_words(self):
        for line in ("squares\t", "\tsquares", "undo\r", "answer\tq", "squares\u00a0", "print s\x0b", "\t", "\r",
                     "squares\x0cundo", "squares\u2028undo", "squares\x1eundo"):
            self.answered(filled_session(), line, "line 1: invalid command")

    def test_commands_that_change(self):
        session, library = filled_session(), filled_session().library
        for line, change in (
                ("product p s t", ("product", "p", "s", "t")), ("product s t p", ("product", "s", "t", "p")),
                ("turn u t 1 2 0", ("turn", "u", "t", [1, 2, 0])), ("turn u u 2 0 1", ("turn", "u", "u", (2, 0, 1))),
                ("switch w t 0 1 1", ("switch", "w", "t", (0, 1), 1)), ("remove w", ("remove_square", "w")),
                ("ask a order big", ("ask", "a", "order", "big", [])), ("ask b mate t", ("ask", "b", "mate", "t", [])),
                ("ask c sign t 1 9", ("ask", "c", "sign", "t", [1, 9])), ("ask d span s", ("ask", "d", "span", "s", [])),
                ("ask d span s 3 0", ("ask", "d", "span", "s", [3, 0])),
                ("ask e span s 3 0 1 1", ("ask", "e", "span", "s", [3, 0, 1, 1])),
                ("ask f span s 3 0 1 1 2 7", ("ask", "f", "span", "s", [3, 0, 1, 1, 2, 7])),
                ("drop a", ("drop", "a")), ("undo", ("undo",)), ("undo", ("undo",)), ("redo", ("redo",))):
            self.answered(session, line, "ok")
            getattr(library, change[0])(*change[1:])
            self.assertEqual(history(session.library), history(library), line)

    def test_answers(self):
        session = filled_session()
        self.answered(session, "ask c sign s 3 3\nask d sign s 3 4\nask e order big\nask f mate big\n"
                      "ask g span big 0 0 1 1\nask h span big\nask y mate one\nsquare one\nlisted 1\nrow 0\nend\n"
                      "ask y mate one", *["ok"] * 6, "line 7: unknown name one", "ok", "ok", "ok")
        right = ["c: sign 2", "d: refused", f"e: order {10 ** 30}", "f: refused", "g: many 200", "h: span 0", "m: no",
                 "s: span 10", "y: yes"]
        self.answered(session, "answer e\nanswer d\nanswer m", right[2], right[1], right[6])
        self.assertEqual((session.library.decided, session.library.kept), (3, 0))
        self.answered(session, "answers", *right)
        self.assertEqual((session.library.decided, session.library.kept), (9, 3))
        self.answered(session, "answers\nanswer c", *right, right[0])
        self.assertEqual((session.library.decided, session.library.kept), (9, 13))

    def test_names_in_order(self):
        session = Session()
        for name in ("b", "a1", "a", "a10", "zz", "a2"):
            self.answered(session, f"square {name}\nsum 2 1 1\nend\nask q{name} order {name}", "ok", "ok", "ok")
        self.answered(session, "drop qa1\nquestions\nsquares", "ok", "questions: qa qa10 qa2 qb qzz",
                      "squares: a a1 a10 a2 b zz")

    def test_print(self):
        session = filled_session()
        self.answered(session, "print big", "square", f"sum {10 ** 30} 3 7")
        self.answered(session, "turn t t 2 1 0\nproduct t t s\nprint t", "ok", "ok", "square", "product",
                      "turned 2 1 0", "listed 2", "row 0 1", "row 1 0", "sum 4 1 1")

    def test_errors(self):
        for line, fault in (
                ("product x big t", "invalid square"), ("product x big none", "unknown name none"),
                ("product x one other", "unknown name one"), ("turn x none 0 0 0", "unknown name none"),
                ("turn x t 0 0 1", "invalid square"), ("turn x t 1 2 3", "invalid square"),
                ("switch x none 0 0 0", "unknown name none"), ("switch x s 0 0 1", "invalid question"),
                ("switch x s 0 4 1", "invalid question"), ("switch x s 0 1 4", "invalid question"),
                ("switch x big 0 1 0", "invalid question"), ("remove m", "unknown name m"),
                ("remove s", "name in use s"), ("remove big", "name in use big"), ("ask x mate m", "unknown name m"),
                ("ask x sign none 0 0", "unknown name none"), ("drop t", "unknown name t"),
                ("answer t", "unknown name t"), ("print m", "unknown name m"), ("redo", "nothing to redo")):
            session = filled_session()
            before = history(session.library)
            self.answered(session, f"\n{line}\nsquares", f"line 2: {fault}", "squares: big s t")
            self.assertEqual(history(session.library), before)
        self.answered(Session(), "\n\nundo\nredo", "line 3: nothing to undo", "line 4: nothing to redo")

    def test_no_commands(self):
        session = filled_session()
        before = history(session.library), session.library.kept, session.library.decided
        lines = ["end", "end s", "END", "Squares", "squares s", "sum 4 1 1", "row 0", "square", "square S", "square 1",
                 "square s t", "product x s", "turn x s 0 1", "turn x s 0 1 2 3", "switch x s 0 1", "ask x",
                 "ask x size s", "ask x order s 0", "ask x sign s 0", "ask x span s 0 0 0", "ask x span s 0 0 0 0 0 0 0 0",
                 "undo 1", "redo redo", "print", "remove", "drop", "answer", "answers m", "questions x", "# undo",
                 "ask abcdefghijklm order s", "turn x s 00 1 2", "turn x s -1 1 2", "ask x sign s 0 +1"]
        lines += [" ".join(filled(command, number=number)) for command in COMMANDS if "7" in command
                  for number in NO_NUMBERS if number.strip() == number and " " not in number and "\n" not in number
                  and number]
        self.answered(session, "\n".join(lines),
                      *[f"line {at}: invalid command" for at in range(1, len(lines) + 1)])
        self.assertEqual((history(session.library), session.library.kept, session.library.decided), before)

    def test_words_alone_decide_what_is_a_command(self):
        # Numbers of 31 digits are numbers, whatever they lead to.
        great = "9" * 31
        self.answered(filled_session(), f"turn x t {great} 0 1\nask q sign s {great} 0\nanswer q\nturn x t {great}9 0 1",
                      "line 1: invalid square", "ok", "q: refused", "line 4: invalid command")


class BlockTest(unittest.TestCase):
    def answered(self, session, text, *right):
        self.assertEqual(session.run(text), list(right), text)

    def test_right_blocks(self):
        for lines in ("sum 3 1 1", "listed 2\nrow 0 1\nrow 1 0", "product\nsum 3 1 1\nfield 2 2 3",
                      "turned 2 0 1\nproduct\nlisted 1\nrow 0\nfield 5 1 4"):
            session = Session()
            self.answered(session, f"square s\n{lines}\nend\nprint s", "ok", "ok", "square", *lines.split("\n"))
            self.assertEqual(session.library.square("s"), parse_square(f"square\n{lines}"))
            spaced = lines.replace(" ", "   ").replace("\n", "  \n\n   \n  ")
            self.answered(session, f"square t\n\n {spaced}\n  end  \nprint t", "ok", "ok", "square",
                          *lines.split("\n"))

    def test_a_block_replaces_a_square(self):
        session = filled_session()
        self.answered(session, "square s\nsum 5 1 1\nend\nanswer m", "ok", "ok", "m: yes")
        self.answered(session, "undo\nanswer m\nredo\nanswer m", "ok", "m: no", "ok", "m: yes")

    def test_wrong_forms(self):
        for lines, line in (
                ("", 1), ("sum 3 1", 1), ("square\nsum 3 1 1", 1), ("sum 3 1 1\nsum 3 1 1", 2), ("product\nsum 3 1 1", 3),
                ("listed 2\nrow 0 1\nrow", 3), ("listed 2\n\n  \nrow 0 1\n\nrow 1 x", 3), ("\n\nno", 1),
                ("turned 0 1 2", 2), ("sum 3 1 1\nsquares", 2), ("ask m mate s", 1), ("listed 1\nrow\t0", 2),
                ("end end", 1), ("sum 3 1 1\nEND", 2), ("sum 3 1 1\nend s", 2), ("sum 03 1 1\nsum", 1)):
            session = filled_session()
            before = history(session.library)
            end = lines.count("\n") + 3
            self.answered(session, f"square s\n{lines}\nend\nundo\nredo\nend", "ok",
                          f"line {end}: invalid notation {line}", "ok", "ok", f"line {end + 3}: invalid command")
            self.assertEqual(history(session.library), before)

    def test_right_forms_that_tell_no_square(self):
        for lines in ("sum 4 2 1", "listed 2\nrow 0 1", "listed 2\nrow 0 1\nrow 0 1", "listed 0", "field 4 1 1",
                      "turned 0 0 1\nsum 3 1 1", "\n".join(["turned 0 1 2"] * 12 + ["sum 3 1 1"]), "sum 0 0 0"):
            session = filled_session()
            before = history(session.library)
            end = lines.count("\n") + 3
            self.answered(session, f"square x\n{lines}\nend\nsquares", "ok", f"line {end}: invalid square",
                          "squares: big s t")
            self.assertEqual(history(session.library), before)

    def test_commands_in_a_block_are_taken(self):
        session = filled_session()
        lines = ["undo", "squares", "square s", "no command", "drop m", "answers", "line 1: invalid command"]
        before = history(session.library)
        self.answered(session, "\n".join(["square x", *lines, "end", "squares"]), "ok",
                      "line 9: invalid notation 1", "squares: big s t")
        self.assertEqual(history(session.library), before)

    def test_a_block_that_stays_open(self):
        session = Session()
        self.answered(session, "square s\nlisted 2", "ok")
        self.answered(session, "")
        self.answered(session, "\n  \nrow 0 1\n")
        self.assertEqual(session.library.square_names(), [])
        self.answered(session, "row 1 0\n\nend\nprint s", "ok", "square", "listed 2", "row 0 1", "row 1 0")
        self.answered(session, "square t", "ok")
        self.answered(session, "sum 3 1 1\nundo")
        # The number of the line is that in its call, the other one that among the lines taken.
        self.answered(session, "\n\nend\nundo\nend", "line 3: invalid notation 2", "ok", "line 5: invalid command")

    def test_blocks_behind_each_other_are_apart(self):
        session = Session()
        self.answered(session, "square s\nsum 3\nend\nsquare s\nsum 3 1 1\nend\nsquare t\nsum 4 1 1\nend\nprint s", "ok",
                      "line 3: invalid notation 1", "ok", "ok", "ok", "ok", "square", "sum 3 1 1")

    def test_undo_and_redo_behind_a_block(self):
        session = Session()
        self.answered(session, "square s\nsum 3 1 1\nend\nundo\nsquares\nredo\nsquares\nundo\nsquare t\nend\nredo",
                      "ok", "ok", "ok", "squares:", "ok", "squares: s", "ok", "ok", "line 10: invalid notation 1", "ok")
        # An open block is no change; one that sets a square is.
        self.answered(session, "undo\nsquare t", "ok", "ok")
        self.answered(session, "sum 2 1 1\nend\nredo\nundo\nsquares", "ok", "line 3: nothing to redo", "ok", "squares:")

    def test_thousands_of_lines(self):
        session = Session()
        text = "square s\n" + "turned 0 1 2\n" * 20000 + "end\nsquare s\n" + "no\n" * 20000 + "end"
        self.answered(session, text, "ok", "line 20002: invalid notation 20001", "ok",
                      "line 40004: invalid notation 1")


class RandomTextsTest(unittest.TestCase):
    def line(self, rng):
        name, one, other = (rng.choice("abc") for _ in range(3))
        numbers = [str(rng.randrange(5)) for _ in range(3)]
        return rng.choice([
            f"square {name}\n{self.block(rng)}\nend", f"square {name}\n{self.block(rng)}\nend", f"square {name}",
            f"product {name} {one} {other}", f"turn {name} {one} {' '.join(rng.sample('012', 3))}",
            f"turn {name} {one} {' '.join(numbers)}", f"switch {name} {one} {' '.join(numbers)}", f"remove {name}",
            f"ask {name} order {one}", f"ask {name} mate {one}", f"ask {name} sign {one} {' '.join(numbers[:2])}",
            f"ask {name} span {one} {' '.join(rng.choices('01234', k=rng.choice([0, 2, 4, 6])))}",
            f"ask {name} span {one} 1", f"drop {name}", f"answer {name}", "answers", f"print {name}", "squares",
            "questions", "undo", "undo", "redo", "redo", "end", "", "   ", "answers a", "no",
        ])

    def block(self, rng):
        return rng.choice(["sum 3 1 1", "sum 4 1 3", "listed 2\nrow 0 1\n\nrow 1 0", "field 2 2 2", "sum 2", "sum 4 2 1",
                           "product\nsum 2 1 1\nsum 3 1 2", "product\nsum 3 1 1", "", "squares\nundo"])

    def test_what_a_library_tells(self):
        rng = random.Random(11)
        seen = set()
        for _ in range(30):
            session, plain = Session(), PlainSession()
            for _ in range(12):
                text = "\n".join(self.line(rng) for _ in range(rng.randrange(12)))
                text = text.replace(" ", rng.choice([" ", "  "]))
                right = plain.run(text)
                self.assertEqual(session.run(text), right, text)
                self.assertEqual(state(session.library), state(plain.library))
                seen |= {re.sub("[0-9]+", "", answer).split(" a")[0] for answer in right}
            self.assertEqual(history(session.library), history(plain.library))
            self.assertEqual((session.library.decided, session.library.kept),
                             (plain.library.decided, plain.library.kept))
        for fault in ("unknown name", "name in use", "invalid notation ", "invalid square", "invalid question",
                      "nothing to undo", "nothing to redo", "invalid command"):
            self.assertTrue(any(f"line : {fault}" == answer.strip() or answer.startswith(f"line : {fault}")
                                for answer in seen), fault)


if __name__ == "__main__":
    unittest.main()
