"""Terms as sums of permutations of the places of their content, and back."""

from math import factorial

from tablelaws.errors import TooLarge, WrongSize
from tablelaws.parts import contents_in, part_of
from tablelaws.perms import cycles_of
from tablelaws.permsums import PermSum
from tablelaws.polys import Poly
from tablelaws.ratios import Ratio
from tablelaws.words import term_key

MOST_PLACES = 6


def places_of(content, kind):
    """Returns the number of places of a content: one for each letter, and for kind matrix the mark's place."""
    return len(content) + (1 if kind == "matrix" else 0)


def check_places(poly, most=MOST_PLACES):
    """Raises TooLarge if a term of a polynomial has more places than `most`."""
    for content in contents_in(poly):
        if places_of(content, poly.kind) > most:
            raise TooLarge(f"a term with the content {content} has more than {most} places")


def linearize(poly, content):
    """Returns the sum of the permutations that the ways of the terms with a content make."""
    places = places_of(content, poly.kind)
    if places > MOST_PLACES:
        raise TooLarge(f"{places} places")
    pairs = []
    for cycles, word, ratio in part_of(poly, content).triples():
        for way in _ways("".join(cycles) + word, content):
            pairs.append((_perm_of_way(way, cycles, poly.kind, places), ratio))
    return PermSum(places, pairs)


def read_perm(perm, content, kind):
    """Returns the key of the term that a permutation of the places of a content reads."""
    mark = len(perm)
    cycles = []
    word = ""
    for cycle in cycles_of(perm):
        if kind == "matrix" and mark in cycle:
            start = cycle.index(mark) + 1
            word = _letters_at(cycle[start:] + cycle[:start - 1], content)
        else:
            cycles.append(_letters_at(cycle, content))
    return term_key(cycles, word)


def restitute(permsum, content, kind):
    """Returns the sum of the terms that the permutations of a sum read, each divided by its number of ways."""
    if permsum.places != places_of(content, kind):
        raise WrongSize(f"a sum of {permsum.places} places for the content {content!r} of kind {kind}")
    share = Ratio(1, _count_ways(content))
    triples = []
    for perm, ratio in permsum.pairs():
        cycles, word = read_perm(perm, content, kind)
        triples.append((cycles, word, ratio * share))
    return Poly(kind, triples)


def _ways(occurrences, content):
    """Returns the list of the ways to give each occurrence of a letter a place of its own that bears the letter."""
    ways = [()]
    for letter in occurrences:
        places = [place for place, borne in enumerate(content, start=1) if borne == letter]
        ways = [way + (place,) for way in ways for place in places if place not in way]
    return ways


def _count_ways(content):
    count = 1
    for letter in sorted(set(content)):
        count = count * factorial(content.count(letter))
    return count


def _perm_of_way(way, cycles, kind, places):
    """Returns the permutation that maps the place of each occurrence to the place of the next one."""
    images = [0] * places
    rest = way
    for cycle in cycles:
        _map_around(rest[:len(cycle)], images)
        rest = rest[len(cycle):]
    if kind == "matrix":
        _map_around((places,) + rest, images)
    return tuple(images)


def _map_around(circle, images):
    for place, image in zip(circle, circle[1:] + circle[:1]):
        images[place - 1] = image


def _letters_at(places, content):
    return "".join([content[place - 1] for place in places])
