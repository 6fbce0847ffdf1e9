"""Running programs at matrices."""

from tablelaws.errors import MissingMatrix, WrongSize
from tablelaws.matrices import Matrix, check_size


def run_steps(program, size, matrices):
    """Returns the list of the values of all steps of a program at matrices of a size."""
    check_size(size)
    check_matrices(program.letters, size, matrices)
    values = []
    for step in program.steps:
        values.append(_step_value(step, values, size, matrices))
    return values


def run_program(program, size, matrices):
    """Returns the value of the result of a program at matrices of a size."""
    return run_steps(program, size, matrices)[program.result]


def check_matrices(letters, size, matrices):
    """Raises the error of the first letter that has no matrix (MissingMatrix) or one of another size (WrongSize)."""
    for letter in letters:
        if letter not in matrices:
            raise MissingMatrix(f"no matrix for the letter {letter}")
        if matrices[letter].size != size:
            raise WrongSize(f"the matrix of the letter {letter} is not of size {size}")


def _step_value(step, values, size, matrices):
    """Returns the value of a step from the values of the earlier steps."""
    word = step[0]
    if word == "letter":
        return matrices[step[1]]
    if word == "one":
        return Matrix.one(size)
    if word == "const":
        return step[1]
    if word == "scale":
        return _times(step[1], values[step[2]])
    if word == "trace":
        return values[step[1]].trace()
    if word == "power":
        return values[step[1]].power(step[2])
    return _pair_value(word, values[step[1]], values[step[2]])


def _pair_value(word, first, second):
    """Returns the sum, the difference or the product of two values."""
    if word == "sum":
        return first + second
    if word == "diff":
        return first - second
    return _times(first, second)


def _times(first, second):
    """Returns the product of two values, each a number or a matrix."""
    if isinstance(first, Matrix) == isinstance(second, Matrix):
        return first * second
    if isinstance(first, Matrix):
        return first.scaled(second)
    return second.scaled(first)
