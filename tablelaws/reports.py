"""Reports: programs of a bench and matrices as lines."""


def report(bench):
    """Returns the lines of a table of the programs of a bench."""
    numbers = {}
    for number, group in enumerate(bench.classes(), start=1):
        for name in group:
            numbers[name] = number
    lines = [_line("name", "kind", "steps", "degree", "terms", "class")]
    for name in bench:
        program = bench[name]
        normal = bench.normal(name)
        lines.append(_line(name, program.kind, len(program.steps), normal.degree, len(normal), numbers[name]))
    return lines


def matrix_lines(matrix):
    """Returns the rows of a matrix as lines, with the entries of each column aligned to the right."""
    columns = []
    for column in matrix.transposed():
        entries = [str(entry) for entry in column]
        width = max([len(entry) for entry in entries])
        columns.append([entry.rjust(width) for entry in entries])
    return [" ".join(entries) for entries in zip(*columns)]


def point_lines(matrices):
    """Returns the lines of the matrices of a dict, for each letter in ascending order."""
    lines = []
    for letter in sorted(matrices):
        lines.append(f"{letter}:")
        lines.extend(matrix_lines(matrices[letter]))
    return lines


def _line(name, kind, steps, degree, terms, number):
    return f"{name:<8} {kind:<6} {steps:>5} {degree:>6} {terms:>5} {number:>5}"
