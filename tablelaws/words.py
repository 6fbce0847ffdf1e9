"""Words, cyclic words, and the keys of terms that consist of them."""


def least_rotation(word):
    """Returns the first rotation of a word in ascending order; the empty string for the empty word."""
    return min([word[k:] + word[:k] for k in range(len(word))], default="")


def term_key(cycles, word):
    """Returns the key of the term with these cyclic words, in any rotation and order, and this word."""
    return (tuple(sorted([least_rotation(cycle) for cycle in cycles])), word)


def content_of(key):
    """Returns the letters of all words of a key in ascending order, with repetitions."""
    cycles, word = key
    return "".join(sorted("".join(cycles) + word))
