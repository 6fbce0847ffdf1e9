"""Polynomials: sums of terms that consist of a fraction, cyclic words and a word."""

from tablelaws.errors import WrongKind
from tablelaws.ratios import Ratio
from tablelaws.sums import collect
from tablelaws.words import content_of, term_key


class Poly:
    """A polynomial of kind "number" or "matrix"; `terms` is the tuple of its keys in ascending order."""

    def __init__(self, kind, terms):
        if kind == "number" and any([word != "" for cycles, word, ratio in terms]):
            raise WrongKind("a term of kind number has a word")
        self.kind = kind
        self._ratios = collect([(term_key(cycles, word), ratio) for cycles, word, ratio in terms])
        self.terms = tuple(self._ratios)

    @staticmethod
    def letter(name):
        """Returns the polynomial of kind matrix that is one letter."""
        return Poly("matrix", [((), name, Ratio(1))])

    @staticmethod
    def constant(kind, ratio):
        """Returns the polynomial without letters that has this coefficient."""
        return Poly(kind, [((), "", ratio)])

    @property
    def degree(self):
        """The greatest degree of a term, 0 if there are no terms."""
        return max([len(content_of(key)) for key in self.terms], default=0)

    def __len__(self):
        return len(self.terms)

    def __iter__(self):
        return iter(self.terms)

    def __contains__(self, x):
        return x in self._ratios

    def __getitem__(self, at):
        return self._ratios.get(at, Ratio(0))

    def __eq__(self, other):
        return isinstance(other, Poly) and self.kind == other.kind and self._ratios == other._ratios

    def __add__(self, other):
        if self.kind != other.kind:
            raise WrongKind(f"the kinds {self.kind} and {other.kind} differ")
        return Poly(self.kind, self.triples() + other.triples())

    def __sub__(self, other):
        return self + -other

    def __mul__(self, other):
        kind = "number" if self.kind == other.kind == "number" else "matrix"
        triples = []
        for (cycles, word), ratio in self._ratios.items():
            for (more, rest), factor in other._ratios.items():
                triples.append((cycles + more, word + rest, ratio * factor))
        return Poly(kind, triples)

    def __neg__(self):
        return self.scaled(Ratio(-1))

    def scaled(self, ratio):
        """Returns the polynomial with all coefficients multiplied by a fraction."""
        return Poly(self.kind, [(cycles, word, ratio * factor) for cycles, word, factor in self.triples()])

    def power(self, exponent):
        """Returns the product of `exponent` factors; the constant 1 of the same kind for the exponent 0."""
        result = Poly.constant(self.kind, Ratio(1))
        for _ in range(exponent):
            result = result * self
        return result

    def traced(self, size):
        """Returns the trace for matrices of a size; the trace of the identity matrix is the size."""
        if self.kind == "number":
            raise WrongKind("a number has no trace")
        triples = []
        for cycles, word, ratio in self.triples():
            if word == "":
                triples.append((cycles, "", ratio * Ratio(size)))
            else:
                triples.append((cycles + (word,), "", ratio))
        return Poly("number", triples)

    def used_letters(self):
        """Returns the letters that occur, in ascending order, each once."""
        contents = "".join([content_of(key) for key in self.terms])
        return "".join(sorted(set(contents)))

    def triples(self):
        """Returns the list of the terms as triples of cyclic words, word and coefficient, in ascending order."""
        return [(cycles, word, ratio) for (cycles, word), ratio in self._ratios.items()]
