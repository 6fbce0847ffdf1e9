"""Square matrices of fractions of the sizes 1, 2 and 3."""

from tablelaws.errors import WrongSize
from tablelaws.ratios import Ratio


def check_size(size):
    """Raises WrongSize if the size is not 1, 2 or 3."""
    if size not in (1, 2, 3):
        raise WrongSize(f"not a size: {size}")


class Matrix:
    """A square matrix; `rows` is the tuple of its rows, each a tuple of fractions."""

    def __init__(self, rows):
        check_size(len(rows))
        if any([len(row) != len(rows) for row in rows]):
            raise WrongSize(f"a row does not have {len(rows)} entries")
        self.size = len(rows)
        self.rows = tuple([tuple([_ratio_of(entry) for entry in row]) for row in rows])

    @staticmethod
    def one(size):
        """Returns the identity matrix."""
        check_size(size)
        places = list(range(size))
        return Matrix([[1 if row == column else 0 for column in places] for row in places])

    @staticmethod
    def zero(size):
        """Returns the matrix of zeros."""
        check_size(size)
        return Matrix([[0] * size for _ in range(size)])

    @staticmethod
    def unit(size, row, column):
        """Returns the matrix with 1 at one entry and zeros elsewhere."""
        check_size(size)
        _check_entry(size, row, column)
        places = list(range(1, size + 1))
        return Matrix([[1 if (i, j) == (row, column) else 0 for j in places] for i in places])

    def __iter__(self):
        return iter(self.rows)

    def __getitem__(self, at):
        row, column = at
        # Without this test the row 0 would mean the last row.
        _check_entry(self.size, row, column)
        return self.rows[row - 1][column - 1]

    def __eq__(self, other):
        return isinstance(other, Matrix) and self.rows == other.rows

    def __add__(self, other):
        _check_same_size(self, other)
        rows = []
        for first, second in zip(self.rows, other.rows):
            rows.append([a + b for a, b in zip(first, second)])
        return Matrix(rows)

    def __sub__(self, other):
        return self + -other

    def __mul__(self, other):
        _check_same_size(self, other)
        columns = other.transposed().rows
        return Matrix([[_row_times_column(row, column) for column in columns] for row in self.rows])

    def __neg__(self):
        return self.scaled(Ratio(-1))

    def scaled(self, ratio):
        """Returns the matrix with each entry multiplied by a fraction."""
        return Matrix([[ratio * entry for entry in row] for row in self.rows])

    def power(self, exponent):
        """Returns the product of `exponent` factors; the identity matrix for the exponent 0."""
        result = Matrix.one(self.size)
        for _ in range(exponent):
            result = result * self
        return result

    def trace(self):
        """Returns the sum of the entries on the diagonal."""
        total = Ratio(0)
        for place in range(self.size):
            total = total + self.rows[place][place]
        return total

    def transposed(self):
        """Returns the matrix with rows and columns exchanged."""
        return Matrix([list(column) for column in zip(*self.rows)])

    def padded(self, size):
        """Returns the matrix with zero rows at the bottom and zero columns at the right, up to a size."""
        check_size(size)
        more = size - self.size
        if more < 0:
            raise WrongSize(f"a matrix of size {self.size} is not padded to size {size}")
        rows = [list(row) + [0] * more for row in self.rows]
        return Matrix(rows + [[0] * size for _ in range(more)])


def _ratio_of(entry):
    """Returns an entry that is an integer or a fraction as a fraction."""
    return entry if isinstance(entry, Ratio) else Ratio(entry)


def _check_entry(size, row, column):
    if not (1 <= row <= size and 1 <= column <= size):
        raise WrongSize(f"no entry in row {row} and column {column} at size {size}")


def _check_same_size(first, second):
    if first.size != second.size:
        raise WrongSize(f"the sizes {first.size} and {second.size} differ")


def _row_times_column(row, column):
    # The sum is reduced once, at its end: this is where most of the time of a run goes.
    num, den = 0, 1
    for a, b in zip(row, column):
        if a.num and b.num:
            divisor = a.den * b.den
            num, den = num * divisor + a.num * b.num * den, den * divisor
    return Ratio(num, den)
