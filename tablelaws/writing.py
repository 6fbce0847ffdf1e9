"""Writing program texts."""

from tablelaws.errors import TooLarge
from tablelaws.lines import is_short, write_line
from tablelaws.ratios import Ratio

MOST_TERMS = 12
# A matrix that a program gives may have one degree less than a number.
MOST_DEGREES = {"number": 6, "matrix": 5}


class Writer:
    """The lines of a program text, as far as they are written."""

    def __init__(self, letters):
        self.lines = [write_line(("letters", tuple(letters)))]

    def let(self, kind, operation):
        """Writes a `let` line with a new name of the kind, and returns the name."""
        name = _new_name(kind, len(self.lines))
        self.lines.append(write_line(("let", name, operation)))
        return name


def write_program(poly):
    """Returns a text of a program that expands to a polynomial at each size."""
    _check_limits(poly)
    writer = Writer(poly.used_letters())
    names = [_write_term(writer, poly.kind, key, poly[key]) for key in poly.terms]
    if not names:
        names = [_write_term(writer, poly.kind, ((), ""), Ratio(0))]
    total = names[0]
    for name in names[1:]:
        total = writer.let(poly.kind, ("sum", total, name))
    writer.lines.append(write_line(("give", total)))
    return "\n".join(writer.lines)


def _check_limits(poly):
    if len(poly) > MOST_TERMS:
        raise TooLarge(f"{len(poly)} terms")
    if poly.degree > MOST_DEGREES[poly.kind]:
        raise TooLarge(f"the degree {poly.degree} for kind {poly.kind}")
    if not all([is_short(poly[key]) for key in poly.terms]):
        raise TooLarge("a coefficient is too long for a line")


def _write_term(writer, kind, key, ratio):
    """Writes the lines of a term, and returns the name of its value."""
    cycles, word = key
    if kind == "matrix":
        total = writer.let(kind, ("scale", ratio, _write_word(writer, word)))
    else:
        total = writer.let(kind, ("const", ratio))
    for cycle in cycles:
        trace = writer.let("number", ("trace", _write_word(writer, cycle)))
        total = writer.let(kind, ("times", total, trace))
    return total


def _write_word(writer, word):
    """Writes the lines of the matrix product along a word, and returns its name."""
    if word == "":
        return writer.let("matrix", ("one",))
    name = word[0]
    for letter in word[1:]:
        name = writer.let("matrix", ("times", name, letter))
    return name


def _new_name(kind, number):
    """Returns a name for the line behind `number` lines; letters have one letter, so it is none of them."""
    alphabet = "abcdefghijklmnopqrstuvwxyz"
    word = alphabet[number // 26] + alphabet[number % 26]
    return word if kind == "matrix" else "N" + word
