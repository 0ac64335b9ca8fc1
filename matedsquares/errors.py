"""The errors that the program raises."""


class MatedsquaresError(ValueError):
    """The base class of all errors of the program."""


class InvalidSquare(MatedsquaresError):
    """What was handed in tells no square."""


class InvalidOrder(MatedsquaresError):
    """What was handed in is not the prime powers of an order of families."""


class InvalidQuestion(MatedsquaresError):
    """What was asked has no answer for what was handed in."""


class NothingToUndo(MatedsquaresError):
    """There is no change to take back."""


class NothingToRedo(MatedsquaresError):
    """There is no change to make again."""


class UnknownName(MatedsquaresError):
    """The library has nothing under this name."""

    def __init__(self, name):
        MatedsquaresError.__init__(self, f"unknown name {name}")
        self.name = name


class NameInUse(MatedsquaresError):
    """A question is about the square of this name."""

    def __init__(self, name):
        MatedsquaresError.__init__(self, f"name in use {name}")
        self.name = name


class InvalidNotation(MatedsquaresError):
    """The line with this number, counted from 1, cannot stand where it stands."""

    def __init__(self, line):
        MatedsquaresError.__init__(self, f"invalid notation in line {line}")
        self.line = line


class InvalidPaper(MatedsquaresError):
    """The line of a paper with this number, counted from 1, cannot stand where it stands."""

    def __init__(self, line):
        MatedsquaresError.__init__(self, f"invalid paper in line {line}")
        self.line = line


class TooMany(MatedsquaresError):
    """There is more to go through than this limit lets."""

    def __init__(self, limit):
        MatedsquaresError.__init__(self, f"more than {limit}")
        self.limit = limit
