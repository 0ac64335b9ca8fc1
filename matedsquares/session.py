"""Sessions: libraries that are used by lines of text."""

from matedsquares.commands import is_command, split_words
from matedsquares.errors import (
    InvalidNotation, InvalidQuestion, InvalidSquare, NameInUse, NothingToRedo, NothingToUndo, UnknownName,
)
from matedsquares.library import Library
from matedsquares.notation import format_square, parse_square


class Session:
    """A library, and perhaps the block of a square that is open."""

    def __init__(self):
        self.library = Library()
        # The name of the square whose block is open, or None, and the lines that the block took.
        self.opened = None
        self.taken = []

    def run(self, text):
        """Do the lines of a text in order, and return all lines that they answer."""
        answered = []
        for number, line in enumerate(text.split("\n"), start=1):
            words = split_words(line)
            if words:
                answered.extend(self.answers_to(number, words))
        return answered

    def answers_to(self, number, words):
        """Return the lines that the line with this number and these words answers."""
        if self.opened is None and not is_command(words):
            return [f"line {number}: invalid command"]
        try:
            return self.do_command(words) if self.opened is None else self.do_in_block(words)
        except UnknownName as unknown:
            fault = f"unknown name {unknown.name}"
        except NameInUse as used:
            fault = f"name in use {used.name}"
        except InvalidNotation as wrong:
            # The first line of the written form is not one of those that were taken.
            fault = f"invalid notation {wrong.line - 1}"
        except InvalidSquare:
            fault = "invalid square"
        except InvalidQuestion:
            fault = "invalid question"
        except NothingToUndo:
            fault = "nothing to undo"
        except NothingToRedo:
            fault = "nothing to redo"
        return [f"line {number}: {fault}"]

    def do_in_block(self, words):
        if words != ["end"]:
            self.taken.append(" ".join(words))
            return []
        name = self.opened
        # The block is closed ahead of the errors that its lines may raise.
        self.opened = None
        self.library.set_square(name, parse_square("\n".join(["square", *self.taken])))
        return ["ok"]

    def do_command(self, words):
        word = words[0]
        if word == "answer":
            return [answer_line(words[1], self.library.answer(words[1]))]
        if word == "answers":
            return [answer_line(name, answer) for name, answer in self.library.answers()]
        if word == "print":
            return format_square(self.library.square(words[1])).split("\n")
        if word == "squares":
            return [" ".join(["squares:", *self.library.square_names()])]
        if word == "questions":
            return [" ".join(["questions:", *self.library.question_names()])]
        if word == "square":
            self.opened = words[1]
            self.taken = []
        else:
            self.change_library(words)
        return ["ok"]

    def change_library(self, words):
        """Do a command that changes the library, or takes a change back or makes it again."""
        word = words[0]
        if word == "product":
            self.library.product(words[1], words[2], words[3])
        elif word == "turn":
            self.library.turn(words[1], words[2], numbers_of(words[3:]))
        elif word == "switch":
            first, second, column = numbers_of(words[3:])
            self.library.switch(words[1], words[2], (first, second), column)
        elif word == "remove":
            self.library.remove_square(words[1])
        elif word == "ask":
            self.library.ask(words[1], words[2], words[3], numbers_of(words[4:]))
        elif word == "drop":
            self.library.drop(words[1])
        elif word == "undo":
            self.library.undo()
        else:
            self.library.redo()


def numbers_of(words):
    return [int(word) for word in words]


def answer_line(name, answer):
    return " ".join([f"{name}:", *[str(part) for part in answer]])
