"""Combinations of polynomials, and tests that show that there is none.

A polynomial stands here for the reduced sums of its contents: a dict from the pairs of a content and a good
permutation, its keys, to fractions. The greatest of the keys is its lead.
"""

from tablelaws.cells import moved_row
from tablelaws.errors import WrongKind
from tablelaws.linearizing import MOST_PLACES, check_places
from tablelaws.matrices import check_size
from tablelaws.parts import parts_in
from tablelaws.polys import Poly
from tablelaws.probes import probe_of
from tablelaws.ratios import Ratio
from tablelaws.reducing import reduce_parts
from tablelaws.sums import collect


class Combination:
    """The factors of a combination, or a test that tells a polynomial from all combinations."""

    def __init__(self, possible, factors, test):
        self.possible = possible
        self.factors = factors
        self.test = test

    def __bool__(self):
        return bool(self.possible)

    def tested(self, poly):
        """Returns the value of the test at a polynomial; 0 if there is no test."""
        total = Ratio(0)
        if self.test is not None:
            for ratio, probe in self.test:
                total = total + ratio * probe(poly)
        return total


def combine(size, poly, others):
    """Returns the combination of other polynomials to which a polynomial is alike, or a test that there is none."""
    check_size(size)
    _check_kinds([*others, poly])
    rows = _rows_of(size, others)
    values, factors = _reduced(_values_of(size, poly), {}, rows)
    if values:
        return Combination(False, None, _test_for(size, poly.kind, values, rows))
    return Combination(True, tuple([-factors.get(k, Ratio(0)) for k in range(len(others))]), None)


def independent(size, polys):
    """Returns the ascending list of the indices of the polynomials that no earlier ones combine to."""
    check_size(size)
    _check_kinds(polys)
    rows = _rows_of(size, polys)
    return [max(list(factors)) for values, factors in rows.values()]


def words_of(content):
    """Returns the list of the words with a content, in ascending order, each once."""
    if content == "":
        return [""]
    words = []
    for letter in sorted(set(content)):
        words.extend([letter + rest for rest in words_of(content.replace(letter, "", 1))])
    return words


def trace_free(size, poly):
    """Returns a polynomial of words that is alike to a polynomial, and None; or None, and a test that there is none."""
    check_size(size)
    if poly.kind == "number":
        raise WrongKind("a polynomial of kind number")
    check_places(poly, MOST_PLACES - 1)
    triples = []
    for content, part in parts_in(poly):
        words = words_of(content)
        combination = combine(size, part, [Poly("matrix", [((), word, Ratio(1))]) for word in words])
        if not combination.possible:
            return (None, combination.test)
        triples.extend([((), word, factor) for word, factor in zip(words, combination.factors)])
    return (Poly("matrix", triples), None)


def _check_kinds(polys):
    if any([poly.kind != polys[0].kind for poly in polys]):
        raise WrongKind("polynomials of different kinds")


def _values_of(size, poly):
    values = {}
    for content, good, _ in reduce_parts(size, poly):
        for perm, ratio in good.pairs():
            values[(content, perm)] = ratio
    return values


def _rows_of(size, polys):
    """Returns rows with different leads that have the same combinations as the polynomials.

    A row consists of the values and the factors of a combination: dicts from keys, and from the indices of
    polynomials, to fractions. The result is a dict from the leads to the rows.
    """
    rows = {}
    for k, poly in enumerate(polys):
        values, factors = _reduced(_values_of(size, poly), {k: Ratio(1)}, rows)
        if values:
            rows[max(list(values))] = (values, factors)
    return rows


def _reduced(values, factors, rows):
    """Subtracts rows from values, and their factors from factors, until no row has the lead of the values."""
    while values and max(list(values)) in rows:
        lead = max(list(values))
        row, row_factors = rows[lead]
        ratio = -(values[lead] // row[lead])
        values = _plus_multiple(values, row, ratio)
        factors = _plus_multiple(factors, row_factors, ratio)
    return (values, factors)


def _plus_multiple(first, second, ratio):
    return collect(list(first.items()) + [(key, ratio * factor) for key, factor in second.items()])


def _test_for(size, kind, values, rows):
    """Returns a test that is 0 at all rows and 1 at values whose lead is not that of a row.

    Its probes are those of the leads. At a row, a probe of a greater lead is 0, and the probe of the row's own lead
    is the coefficient of the lead; so the fractions are found one after another.
    """
    own = max(list(values))
    table = {lead: row for lead, (row, _) in rows.items()}
    table[own] = values
    pairs = []
    for lead in sorted(table):
        missing = Ratio(1) if lead == own else Ratio(0)
        for ratio, probe in pairs:
            missing = missing - ratio * _probed(table[lead], probe)
        if missing:
            content, perm = lead
            pairs.append((missing // table[lead][lead], probe_of(size, content, kind, perm)))
    return tuple(pairs)


def _probed(values, probe):
    """Returns the value of a probe at a polynomial that has these values."""
    total = Ratio(0)
    for (content, perm), ratio in values.items():
        if content == probe.content and moved_row(perm, probe.columns) == probe.rows:
            total = total + ratio
    return total
