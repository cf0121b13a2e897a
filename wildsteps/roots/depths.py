"""The value of the resultant of a polynomial over a field and its derivative."""

from wildsteps.fields.members import minus, plus, rests_to, times, value_in, whole
from wildsteps.fields.near import near_product
from wildsteps.fields.tables import whole_table
from wildsteps.roots.over import derived_over
from wildsteps.roots.scales import Scale, inverse_of, quotient_by, value_to

FIRST_LEVELS = 80


def pair_table(field, numbers):
    """The members a_u b_v - a_v b_u, a being the numbers and b those of the derivative."""
    many = len(numbers)
    slopes = derived_over(numbers) + (whole(field, 0),)
    table = [[whole(field, 0)] * many for _ in range(many)]
    for place in range(many):
        for index in range(place):
            one = times(field, numbers[place], slopes[index])
            table[place][index] = minus(one, times(field, numbers[index], slopes[place]))
    return table


def bezout_table(field, numbers):
    """A square table whose determinant is the resultant times the last number, but for its sign."""
    degree = len(numbers) - 1
    pairs = pair_table(field, numbers)
    table = [[whole(field, 0)] * degree for _ in range(degree)]
    for place in range(degree):
        for index in range(place, degree):
            total = whole(field, 0)
            for further in range(min(place, degree - 1 - index) + 1):
                total = plus(total, pairs[index + further + 1][place - further])
            table[place][index] = total
            table[index][place] = total
    return table


def least_place(scale, rows):
    """The least value in a table, with its row and its column."""
    values = []
    for place, row in enumerate(rows):
        values.extend([(value_to(scale, entry), place, index) for index, entry in enumerate(row)])
    return min(values)


def cleared(scale, row, pivot, share, column):
    """The row less a share of the pivot row, without the column."""
    entries = []
    for index, entry in enumerate(row):
        if index != column:
            change = near_product(scale.home, share, pivot[index], scale.modulus)
            entries.append(rests_to(minus(entry, change), scale.modulus))
    return entries


def eliminated(scale, table):
    """The sum of the values of all pivots that are not 0 to the level, and how many are missing."""
    rows = [[rests_to(entry, scale.modulus) for entry in row] for row in table]
    total = 0
    while len(rows) > 0:
        # With the least value as pivot no quotient loses any level.
        value, place, column = least_place(scale, rows)
        if value >= scale.levels:
            return total, len(rows)
        total = total + value
        pivot = rows[place]
        inverse = inverse_of(scale, pivot[column], value)
        left = []
        for index, row in enumerate(rows):
            if index != place:
                share = quotient_by(scale, row[column], inverse, value)
                left.append(cleared(scale, row, pivot, share, column))
        rows = left
    return total, 0


def member_size(field, member):
    """A number that no absolute value of a conjugate of the member is above."""
    return max([sum([abs(entry) for entry in row]) for row in whole_table(field, member)])


def greatest_value(field, numbers):
    """A level that the value of the resultant, if this is not 0, is not above."""
    degree = len(numbers) - 1
    sizes = [member_size(field, number) for number in numbers]
    slopes = [place * sizes[place] for place in range(1, degree + 1)]
    bits = (degree - 1) * sum(sizes).bit_length() + degree * sum(slopes).bit_length()
    # The norm of the resultant is at most 2 to the power of the bits, times the degree of the field.
    return bits * field.step_size


def resultant_value(field, numbers):
    """The value of the resultant of a polynomial and its derivative, None if it is 0."""
    table = bezout_table(field, numbers)
    last = value_in(field, numbers[-1])
    most = greatest_value(field, numbers) + last
    levels = FIRST_LEVELS
    while True:
        total, missing = eliminated(Scale(field, levels), table)
        if missing == 0:
            return total - last
        if total + missing * levels > most:
            return None
        levels = levels * 4
