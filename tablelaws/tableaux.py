"""Pairs of tableaux, and the permutations that they stand for."""

from tablelaws.errors import InvalidPermutation


def tableaux_of(perm):
    """Returns the pair of the tableau of the values of a permutation and the tableau of its places."""
    values = []
    places = []
    for place, value in enumerate(perm, start=1):
        index = _insert(value, values)
        if index == len(places):
            places.append([])
        places[index].append(place)
    return (tuple([tuple(row) for row in values]), tuple([tuple(row) for row in places]))


def perm_of(values, places):
    """Returns the permutation with this pair of tableaux."""
    _check_tableaux(values, places)
    row_of = {place: index for index, row in enumerate(places) for place in row}
    rows = [list(row) for row in values]
    perm = ()
    # The last place got the last cell, so the cells are emptied from the last place to the first.
    for place in range(len(row_of), 0, -1):
        perm = (_take_out(rows, row_of[place]),) + perm
    return perm


def _insert(value, rows):
    """Inserts a value into rows of values, and returns the index of the row that gets one more cell."""
    moving = value
    index = 0
    while index < len(rows) and rows[index][-1] < moving:
        column = _count_greater(rows[index], moving)
        moved = rows[index][column]
        rows[index][column] = moving
        moving = moved
        index = index + 1
    if index == len(rows):
        rows.append([])
    rows[index].append(moving)
    return index


def _take_out(rows, index):
    """Undoes the insertion that gave the row with this index its last cell, and returns the value that went in."""
    moving = rows[index].pop()
    for above in range(index - 1, -1, -1):
        column = _count_greater(rows[above], moving) - 1
        moved = rows[above][column]
        rows[above][column] = moving
        moving = moved
    return moving


def _count_greater(row, value):
    return len([entry for entry in row if entry > value])


def _check_tableaux(values, places):
    lengths = [len(row) for row in values]
    if lengths != [len(row) for row in places]:
        raise InvalidPermutation("the tableaux have different shapes")
    if 0 in lengths or lengths != sorted(lengths, reverse=True):
        raise InvalidPermutation(f"rows of the lengths {lengths}")
    for rows in (values, places):
        entries = [entry for row in rows for entry in row]
        if sorted(entries) != list(range(1, len(entries) + 1)):
            raise InvalidPermutation(f"not the entries of a tableau: {entries}")
    if not _is_increasing([[-entry for entry in row] for row in values]):
        raise InvalidPermutation("the tableau of the values is not decreasing")
    if not _is_increasing(places):
        raise InvalidPermutation("the tableau of the places is not increasing")


def _is_increasing(rows):
    """Tells whether the entries of each row and of each column increase."""
    pairs = [pair for row in rows for pair in zip(row, row[1:])]
    for row, below in zip(rows, rows[1:]):
        pairs = pairs + list(zip(row, below))
    return all([first < second for first, second in pairs])
