"""Words and commands: points 65 and 66."""

import re
import unittest

from matedsquares import commands as module
from matedsquares.commands import is_command, split_words
from tests.test_names import NAMES, NO_NAMES

# The places of names and numbers are told by N and 7.
COMMANDS = [
    "square N", "product N N N", "turn N N 7 7 7", "switch N N 7 7 7", "remove N", "ask N order N",
    "ask N mate N", "ask N sign N 7 7", "ask N span N", "ask N span N 7 7", "ask N span N 7 7 7 7",
    "ask N span N 7 7 7 7 7 7", "drop N", "answer N", "answers", "print N", "squares", "questions",
    "undo", "redo",
]
NUMBERS = ["0", "1", "9", "10", "12345", "9" * 31, "1" + "0" * 30]
NO_NUMBERS = [
    "", "00", "01", "007", "-1", "+1", "1.0", "1_0", "x", "a", "1a", "0x1", " 1", "1 ", "1" * 32,
    "1" + "0" * 31, "\u0663", "\u00b2", "1\n", "1e3", "--", "0 0",
]


def filled(command, name="s", number="2"):
    return [{"N": name, "7": number}.get(word, word) for word in command.split()]


def fits(own, word):
    if own == "N":
        return re.fullmatch("[a-z][a-z0-9]{0,11}", word) is not None
    if own == "7":
        return re.fullmatch("0|[1-9][0-9]{0,30}", word) is not None
    return word == own


def has_form(words):
    """Whether words have the form of one of the commands."""
    forms = [command.split() for command in COMMANDS]
    return any(len(form) == len(words) and all(map(fits, form, words)) for form in forms)


class SplitWordsTest(unittest.TestCase):
    def test_parts_between_spaces(self):
        for line, words in (
                ("", []), (" ", []), ("    ", []), ("a", ["a"]), (" a ", ["a"]), ("a b", ["a", "b"]),
                ("a   b", ["a", "b"]), ("  turn  t s   0 1 2 ", ["turn", "t", "s", "0", "1", "2"]),
                ("a\tb c", ["a\tb", "c"]), ("\t", ["\t"]), ("a\u00a0b", ["a\u00a0b"]),
                (" a\r", ["a\r"]), ("A B", ["A", "B"])):
            self.assertEqual(split_words(line), words)

    def test_new_lists(self):
        split_words("a b").clear()
        self.assertEqual(split_words("a b"), ["a", "b"])


class IsCommandTest(unittest.TestCase):
    def test_every_command(self):
        for command in COMMANDS:
            for name in NAMES:
                for number in NUMBERS:
                    words = filled(command, name, number)
                    self.assertIs(is_command(words), True, words)
                    self.assertEqual(words, filled(command, name, number))

    def test_a_word_too_few_or_too_many(self):
        for command in COMMANDS:
            words = filled(command)
            for at in range(len(words)):
                self.compared(words[:at] + words[at + 1:])
                self.compared(words[:at + 1])
                for more in ("s", "2", "span", "square", "order"):
                    self.compared(words[:at] + [more] + words[at:])
            for more in (["s"], ["2"], ["2", "2"], ["s", "2"], ["2"] * 8, ["answers"]):
                self.compared(words + more)

    def compared(self, words):
        if words:
            self.assertIs(is_command(words), has_form(words), words)

    def test_numbers_of_span(self):
        for count in range(12):
            words = ["ask", "q", "span", "s"] + ["4"] * count
            self.assertIs(is_command(words), count in (0, 2, 4, 6), count)
            self.assertIs(is_command(["ask", "q", "sign", "s"] + ["4"] * count), count == 2)
            self.assertIs(is_command(["ask", "q", "order", "s"] + ["4"] * count), count == 0)
            self.assertIs(is_command(["ask", "q", "mate", "s"] + ["4"] * count), count == 0)
            self.assertIs(is_command(["turn", "q", "s"] + ["4"] * count), count == 3)
            self.assertIs(is_command(["switch", "q", "s"] + ["4"] * count), count == 3)

    def test_wrong_words(self):
        for command in COMMANDS:
            form = command.split()
            for at, own in enumerate(form):
                wrong_ones = NO_NAMES if own == "N" else NO_NUMBERS if own == "7" else \
                    [own.upper(), own.capitalize(), own + "s", own[:-1], own + " ", "", "end", "listed",
                     "row", "N", "2", "quit"]
                for wrong in wrong_ones:
                    words = filled(command)
                    words[at] = wrong
                    self.compared(words)
                    if own in ("N", "7"):
                        self.assertIs(is_command(words), False, words)

    def test_single_words(self):
        for word in ("answers", "squares", "questions", "undo", "redo"):
            self.assertIs(is_command([word]), True)
        for word in ("square", "product", "turn", "switch", "remove", "ask", "drop", "answer", "print",
                     "end", "", "help", "s", "2", "order", "mate", "sign", "span", "Undo", "undo "):
            self.assertIs(is_command([word]), False)

    def test_names_that_are_commands(self):
        self.assertIs(is_command(["square", "square"]), True)
        self.assertIs(is_command(["ask", "order", "order", "order"]), True)
        self.assertIs(is_command(["ask", "span", "span", "mate", "1", "2"]), True)
        self.assertIs(is_command(["ask", "q", "s", "order"]), False)

    def test_interface(self):
        for name in ("split_words", "is_command"):
            self.assertEqual(getattr(module, name).__module__, "matedsquares.commands")


if __name__ == "__main__":
    unittest.main()
