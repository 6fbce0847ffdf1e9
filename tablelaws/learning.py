"""Learning polynomials from the values of probes, which runs of a program give."""

from tablelaws.cells import choices_of, chosen_sums, moved_row, place_matrices
from tablelaws.errors import WrongKind, WrongSize
from tablelaws.linearizing import places_of, restitute
from tablelaws.listing import good_permutations
from tablelaws.matrices import Matrix
from tablelaws.permsums import PermSum
from tablelaws.probes import probes_of
from tablelaws.ratios import Ratio
from tablelaws.running import run_program


def from_values(size, content, kind, values):
    """Returns the polynomial of good permutations at which the probes have these values."""
    probes = probes_of(size, content, kind)
    if len(values) != len(probes):
        raise WrongSize(f"{len(values)} values for {len(probes)} probes")
    places = places_of(content, kind)
    perms = list(good_permutations(size, places))
    ratios = {}
    # Besides its own permutation, a probe sees only greater ones; the coefficients of these are found before.
    for k in range(len(perms) - 1, -1, -1):
        ratios[perms[k]] = values[k] - _seen_sum(ratios, probes[k])
    return restitute(PermSum(places, list(ratios.items())), content, kind)


def run_probe(program, probe):
    """Returns the value of a probe at the polynomial of a program, computed by runs of the program."""
    if program.kind != probe.kind:
        raise WrongKind(f"a probe of kind {probe.kind} for a program of kind {program.kind}")
    matrices = place_matrices(probe.size, probe.columns, probe.rows)
    total = Ratio(0)
    for chosen in choices_of(probe.content):
        value = _chosen_value(program, probe, matrices, chosen)
        left = len(probe.content) - len(chosen)
        total = total - value if left % 2 else total + value
    return total


def learn(program, size, content):
    """Returns the polynomial that is learned from the values of all probes of a content by runs of a program."""
    values = [run_probe(program, probe) for probe in probes_of(size, content, program.kind)]
    return from_values(size, content, program.kind, values)


def _seen_sum(ratios, probe):
    """Returns the sum of the coefficients of the permutations that move the columns of a probe to its rows."""
    total = Ratio(0)
    for perm, ratio in ratios.items():
        if moved_row(perm, probe.columns) == probe.rows:
            total = total + ratio
    return total


def _chosen_value(program, probe, matrices, chosen):
    """Returns the result of a program at the chosen sums of matrices, or the entry of it that the probe takes."""
    sums = chosen_sums(probe.content, matrices, chosen)
    zero = Matrix.zero(probe.size)
    value = run_program(program, probe.size, {letter: sums.get(letter, zero) for letter in program.letters})
    if program.kind == "matrix":
        return value[probe.columns[-1], probe.rows[-1]]
    return value
