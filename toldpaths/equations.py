"""Linear equations between rows of integers, solved without fractions."""

from math import gcd


def echelon(rows):
    """Return rows that make the same as these do, up to fractions: each with its own first column.

    In the first column in which a row is not 0, all other ones are. Rows of nothing are left out.
    """
    done = []
    left = [row for row in rows if any(row)]
    width = len(rows[0]) if rows != [] else 0
    for column in range(width):
        chosen = _first_with(left, column)
        if chosen is not None:
            pivot = left[chosen]
            done = [_cleared(row, pivot, column) for row in done] + [pivot]
            left = [_cleared(row, pivot, column) for row in left[:chosen] + left[chosen + 1:]]
            left = [row for row in left if any(row)]
    return done


def tails_without_head(rows, width):
    """Return the ends, behind the first columns, of all sums of rows that are 0 in these columns."""
    for column in range(width):
        chosen = _first_with(rows, column)
        if chosen is not None:
            pivot = rows[chosen]
            rows = [_cleared(row, pivot, column) for row in rows[:chosen] + rows[chosen + 1:]]
    return echelon([row[width:] for row in rows])


def _first_with(rows, column):
    """Return the number of the first row that is not 0 in a column, or None."""
    for number, row in enumerate(rows):
        if row[column] != 0:
            return number
    return None


def _cleared(row, pivot, column):
    """Return a row less so many times a pivot row that it is 0 in a column, in least numbers."""
    if row[column] == 0:
        return row
    common = gcd(row[column], pivot[column])
    times = pivot[column] // common
    less = row[column] // common
    return _in_least_numbers([times * one - less * other for one, other in zip(row, pivot)])


def _in_least_numbers(row):
    """Return a row without a common factor of all its numbers."""
    common = 0
    for number in row:
        common = gcd(common, number)
    if common < 2:
        return row
    return [number // common for number in row]
