"""Tables of multiplications by a member, their determinants, traces and characteristic polynomials."""

from wildsteps.fields.members import entries_of, less_heads, low_product, times, times_r, whole_low
from wildsteps.prime.determinants import determinant


def letter_rows(low, low_member):
    """The low member times each power of t below the plain size."""
    rows = [low_member]
    for _ in range(len(low) - 2):
        rows.append(less_heads([0] + list(rows[-1]), low))
    return rows


def whole_table(field, member):
    """The table of the multiplication on all t ** i r ** j: a list of integers for each of them."""
    low = field.low
    table = []
    row = member
    for place in range(field.step_size):
        if place > 0:
            row = times_r(field, row)
        columns = [letter_rows(low, low_member) for low_member in row]
        for index in range(len(low) - 1):
            table.append([entry for column in columns for entry in column[index]])
    return table


def whole_norm(field, member):
    """The norm of a member."""
    return determinant(whole_table(field, member))


def low_sums(low, top):
    """The traces of r ** 0, r ** 1, .. below the step size, over the plain part: low members."""
    size, step_size = len(low) - 1, len(top) - 1
    sums = [whole_low(size, step_size)]
    for count in range(1, step_size):
        # The sums of the powers of the roots, by the numbers of the polynomial of which they are roots.
        total = [count * entry for entry in top[step_size - count]]
        for place in range(1, count):
            product = low_product(low, top[step_size - place], sums[count - place])
            total = [a + b for a, b in zip(total, product)]
        sums.append(tuple([-entry for entry in total]))
    return sums


def plain_trace(low, sums, member):
    """The trace of a member over the plain part, by the traces of the powers of r."""
    total = (0,) * (len(low) - 1)
    for row, share in zip(member, sums):
        total = [a + b for a, b in zip(total, low_product(low, row, share))]
    return tuple(total)


def trace_rows(field):
    """The traces of r ** j over the plain part, and those of t ** i over the numbers of the prime."""
    low = field.low
    letters = [entry[0] for entry in low_sums((0, 1), [(entry,) for entry in low])]
    return low_sums(low, field.top), letters


def number_trace(low, sums, letters, member):
    """The trace of a member, by the traces of the powers of both letters."""
    total = plain_trace(low, sums, member)
    return sum([entry * share for entry, share in zip(total, letters)])


def whole_trace(field, member):
    """The trace of a member."""
    sums, letters = trace_rows(field)
    return number_trace(field.low, sums, letters, member)


def powers_of(field, member, many):
    """The first powers of a member, from the first one on."""
    powers = [member]
    for _ in range(many - 1):
        powers.append(times(field, powers[-1], member))
    return powers


def numbers_by_sums(low, sums):
    """The monic polynomial over the plain part whose roots have these sums of powers, from the first one on."""
    size = len(low) - 1
    numbers = [whole_low(size, 1)]
    for count in range(1, len(sums) + 1):
        total = [0] * size
        for place in range(1, count + 1):
            product = low_product(low, numbers[count - place], sums[place - 1])
            total = [a - b for a, b in zip(total, product)]
        # The sum is a multiple of the count: the numbers are those of a polynomial over a ring.
        numbers.append(tuple([entry // count for entry in total]))
    return tuple(numbers[::-1])


def plain_characteristic(field, member):
    """The polynomial of a member over the plain part: low members, the one at x ** 0 first."""
    low = field.low
    sums = low_sums(low, field.top)
    powers = powers_of(field, member, field.step_size)
    return numbers_by_sums(low, [plain_trace(low, sums, power) for power in powers])


def whole_characteristic(field, member):
    """The polynomial of a member over the integers."""
    sums, letters = trace_rows(field)
    powers = powers_of(field, member, field.degree)
    told = [(number_trace(field.low, sums, letters, power),) for power in powers]
    return tuple(entries_of(numbers_by_sums((0, 1), told)))
