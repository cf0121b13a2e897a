"""Tables of multiplications by a member, and their characteristic polynomials."""

from wildsteps.fields.members import entries_of, letter_r, low_product, low_sum, times, whole_low, with_low


def plain_table(field, member):
    """The table of the multiplication on the powers of r: low members as entries."""
    rows = [member]
    for _ in range(field.step_size - 1):
        rows.append(times(field, rows[-1], letter_r(field)))
    return rows


def letter_powers(field):
    """The powers of t below the plain size, as members."""
    size = field.plain_size
    rows = [(0,) * place + (1,) + (0,) * (size - 1 - place) for place in range(size)]
    return [with_low(field, row) for row in rows]


def whole_table(field, member):
    """The table of the multiplication on all t ** i r ** j: low members of size 1 as entries."""
    table = []
    for row in plain_table(field, member):
        for letter in letter_powers(field):
            table.append([(entry,) for entry in entries_of(times(field, row, letter))])
    return table


def table_entry(low, one, other, place, column):
    """The entry of the product of two tables."""
    result = whole_low(len(low) - 1, 0)
    for index, entry in enumerate(one[place]):
        result = low_sum(result, low_product(low, entry, other[index][column]))
    return result


def table_product(low, one, other):
    """The product of two square tables."""
    many = len(one)
    return [[table_entry(low, one, other, place, column) for column in range(many)] for place in range(many)]


def with_diagonal(table, number):
    """The table with the low member added along its diagonal."""
    rows = [list(row) for row in table]
    for place, row in enumerate(table):
        rows[place][place] = low_sum(row[place], number)
    return rows


def diagonal_sum(size, table):
    """The sum of the diagonal."""
    result = whole_low(size, 0)
    for place, row in enumerate(table):
        result = low_sum(result, row[place])
    return result


def characteristic(low, table):
    """The determinant of x less the table: low members, the one at x ** 0 first."""
    size = len(low) - 1
    many = len(table)
    numbers = [whole_low(size, 1)]
    product = [[whole_low(size, 0)] * many for _ in range(many)]
    for count in range(1, many + 1):
        product = table_product(low, table, with_diagonal(product, numbers[-1]))
        # The sum is a multiple of the count: the numbers are those of a polynomial over a ring.
        numbers.append(tuple([-entry // count for entry in diagonal_sum(size, product)]))
    return tuple(numbers[::-1])


def plain_characteristic(field, member):
    """The polynomial of a member over the plain part."""
    return characteristic(field.low, plain_table(field, member))


def whole_characteristic(field, member):
    """The polynomial of a member over the integers."""
    return tuple(entries_of(characteristic((0, 1), whole_table(field, member))))
