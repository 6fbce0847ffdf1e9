"""The lines of program texts and their statements."""

from tablelaws.errors import InvalidLine, InvalidNumber
from tablelaws.names import name_kind
from tablelaws.ratios import Ratio

MOST_NAMES = 6
# The greatest integer of 6 digits.
MOST_PART = 999999

# What stands behind the word of each operation but `call`.
OPERANDS = {
    "one": (),
    "const": ("ratio",),
    "sum": ("name", "name"),
    "diff": ("name", "name"),
    "times": ("name", "name"),
    "scale": ("ratio", "name"),
    "trace": ("name",),
    "power": ("name", "exponent"),
}


def parse_line(line, number):
    """Returns the statement of a line; raises InvalidLine with the number if the line is invalid."""
    words = line.split(" ")
    head, *rest = words
    if head == "letters":
        return (head, _parse_list(rest, "letter", number))
    if head == "def":
        return (head,) + _parse_function(rest, number)
    if head in ("end", "give"):
        return (head,) + _parse_parts(rest, ("name",), number)
    if head == "let" and len(rest) > 2 and rest[1] == "=":
        return (head, _parse_name(rest[0], number), _parse_operation(rest[2:], number))
    raise InvalidLine(number)


def write_line(statement):
    """Returns the valid line that has the statement."""
    if statement[0] == "let":
        head, name, operation = statement
        return f"{head} {name} = {_spaced(operation)}"
    return _spaced(statement)


def is_short(ratio):
    """Tells whether a line can hold a fraction: whether its two integers have at most 6 digits."""
    return abs(ratio.num) <= MOST_PART and ratio.den <= MOST_PART


def _parse_operation(words, number):
    head, *rest = words
    if head == "call":
        return (head,) + _parse_function(rest, number)
    if head not in OPERANDS:
        raise InvalidLine(number)
    return (head,) + _parse_parts(rest, OPERANDS[head], number)


def _parse_function(words, number):
    """Returns the name of a function and the tuple of the names behind it."""
    if not words or name_kind(words[0]) != "matrix":
        raise InvalidLine(number)
    return (words[0], _parse_list(words[1:], "name", number))


def _parse_list(words, form, number):
    """Returns the tuple of the parts that 0 to 6 words of one form stand for."""
    if len(words) > MOST_NAMES:
        raise InvalidLine(number)
    return _parse_parts(words, [form] * len(words), number)


def _parse_parts(words, forms, number):
    """Returns the tuple of the parts that words stand for; each word has the form at the same index."""
    if len(words) != len(forms):
        raise InvalidLine(number)
    parts = []
    for word, form in zip(words, forms):
        action = PARSERS[form]
        parts.append(action(word, number))
    return tuple(parts)


def _parse_name(word, number):
    if name_kind(word) is None:
        raise InvalidLine(number)
    return word


def _parse_letter(word, number):
    if len(word) != 1 or name_kind(word) != "matrix":
        raise InvalidLine(number)
    return word


def _parse_ratio(word, number):
    try:
        ratio = Ratio.read(word)
    except InvalidNumber:
        raise InvalidLine(number) from None
    if not is_short(ratio):
        raise InvalidLine(number)
    return ratio


def _parse_exponent(word, number):
    if len(word) != 1 or word not in "0123456":
        raise InvalidLine(number)
    return int(word)


PARSERS = {
    "name": _parse_name,
    "letter": _parse_letter,
    "ratio": _parse_ratio,
    "exponent": _parse_exponent,
}


def _spaced(parts):
    """Returns the words of the parts of a statement or an operation, separated by spaces."""
    words = []
    for part in parts:
        words.extend(part if isinstance(part, tuple) else [str(part)])
    return " ".join(words)
