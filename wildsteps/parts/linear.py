"""Rows of integers: combinations of them, echelon forms and kernels modulo a prime, inverses modulo its powers."""

from wildsteps.prime.whole import inverse_modulo


def unit_row(many, place):
    """The row with 1 at the place, and 0 elsewhere."""
    return [0] * place + [1] + [0] * (many - 1 - place)


def combined(row, rows, modulus):
    """The sum of the rows, each times a number of the one row, in rests; there is at least one row."""
    result = [0] * len(rows[0])
    for number, further in zip(row, rows):
        if number != 0:
            result = [entry + number * share for entry, share in zip(result, further)]
    return [entry % modulus for entry in result]


def less_share(row, pivot, share, modulus):
    """The row less a share of the pivot row, in rests."""
    if share == 0:
        return row
    return [(entry - share * less) % modulus for entry, less in zip(row, pivot)]


def unit_place(prime, rows, place, column):
    """The first row from the place on that the prime does not divide in the column, None if there is none."""
    for index in range(place, len(rows)):
        if rows[index][column] % prime != 0:
            return index
    return None


def echelon(prime, modulus, rows, columns):
    """The rows, combined so that each of the pivots among the first columns stands alone, and the pivots.

    The rows behind those with pivots are 0 in these columns, modulo the prime.
    """
    left = [[entry % modulus for entry in row] for row in rows]
    pivots = []
    for column in range(columns):
        place = len(pivots)
        index = unit_place(prime, left, place, column)
        if index is None:
            continue
        left[place], left[index] = left[index], left[place]
        share = inverse_modulo(left[place][column], modulus)
        pivot = [entry * share % modulus for entry in left[place]]
        left = [less_share(row, pivot, row[column], modulus) for row in left]
        left[place] = pivot
        pivots.append(column)
    return left, pivots


def reduced_rows(prime, rows, columns):
    """The rows of the echelon form modulo the prime that are not 0, and their pivots."""
    left, pivots = echelon(prime, prime, rows, columns)
    return left[:len(pivots)], pivots


def kernel_rows(prime, rows):
    """The combinations of rows that are 0 modulo the prime, in echelon form, and their pivots."""
    many, columns = len(rows), len(rows[0])
    wide = [list(row) + unit_row(many, place) for place, row in enumerate(rows)]
    left, pivots = echelon(prime, prime, wide, columns)
    return reduced_rows(prime, [row[columns:] for row in left[len(pivots):]], many)


def inverse_table(prime, modulus, rows):
    """The inverse of a square table whose determinant the prime does not divide."""
    many = len(rows)
    wide = [list(row) + unit_row(many, place) for place, row in enumerate(rows)]
    left, _ = echelon(prime, modulus, wide, many)
    return [row[many:] for row in left]
