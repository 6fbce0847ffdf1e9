"""The values of polynomials at matrices."""

from tablelaws.matrices import Matrix, check_size
from tablelaws.ratios import Ratio
from tablelaws.running import check_matrices


def value_at(poly, size, matrices):
    """Returns the value of a polynomial at matrices of a size."""
    check_size(size)
    letters = poly.used_letters()
    check_matrices(letters, size, matrices)
    products = {letter: matrices[letter] for letter in letters}
    products[""] = Matrix.one(size)
    total = Ratio(0) if poly.kind == "number" else Matrix.zero(size)
    for cycles, word, ratio in poly.triples():
        factor = ratio
        for cycle in cycles:
            factor = factor * product_along(cycle, products).trace()
        total = total + (factor if poly.kind == "number" else product_along(word, products).scaled(factor))
    return total


def product_along(word, products):
    """Returns the product along a word, from left to right.

    `products` is a dict with the products along the empty word and along each letter. The products along the
    word and its beginnings are added to it, as many words of a polynomial begin alike. A tuple of strings, too, is
    such a word; its letters are the strings.
    """
    if word not in products:
        products[word] = product_along(word[:-1], products) * products[word[-1]]
    return products[word]
