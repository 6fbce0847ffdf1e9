"""The errors of the program."""


class TableError(ValueError):
    """The base class of all errors of the program."""


class ZeroDivisor(TableError):
    """A fraction has the denominator zero, or is divided by zero."""


class InvalidNumber(TableError):
    """A text is not the written form of a fraction."""


class WrongSize(TableError):
    """A size, a row, a column or a number of places does not fit."""


class WrongKind(TableError):
    """A number stands where a matrix belongs, or the other way round."""


class InvalidPermutation(TableError):
    """A tuple is not a permutation, or not one that is asked for."""


class TooLarge(TableError):
    """A value is larger than the program allows."""


class MissingMatrix(TableError):
    """There is no matrix for a letter."""


class InvalidPolynomial(TableError):
    """A text or a value is not a polynomial of the form that is asked for."""


class InvalidName(TableError):
    """A string cannot be the name of a program."""


class ProgramExists(TableError):
    """There is a program of this name already."""


class MissingProgram(TableError):
    """There is no program of this name."""


class ProgramError(TableError):
    """A program text has a fault; `line` is the number of the faulty line, counted from 1."""

    def __init__(self, line):
        TableError.__init__(self, f"line {line}")
        self.line = line


class InvalidLine(ProgramError):
    """A line is invalid or does not stand at its place."""


class UnknownName(ProgramError):
    """A line uses a name that is not in reach."""


class KindMismatch(ProgramError):
    """The kinds of the names of a line do not fit together."""


class NameTaken(ProgramError):
    """A line introduces a name that is taken."""


class ProgramTooLarge(ProgramError):
    """A line makes the text or the program too large."""
