"""The names of program texts."""

MOST_LENGTH = 8


def name_kind(name):
    """Returns the kind of a name, and None for a string that is not a name."""
    if not 1 <= len(name) <= MOST_LENGTH:
        return None
    if are_small(name):
        return "matrix"
    if name[0] in "ABCDEFGHIJKLMNOPQRSTUVWXYZ" and are_small(name[1:]):
        return "number"
    return None


def are_small(text):
    """Tells whether a text consists of small letters only; the empty text does."""
    return all([letter in "abcdefghijklmnopqrstuvwxyz" for letter in text])
