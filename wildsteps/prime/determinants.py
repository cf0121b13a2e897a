"""Determinants of tables with integers, and what is made of them."""


def pivot_row(rows, place):
    """The first row from the place on with a number other than 0 there, None if there is none."""
    for index in range(place, len(rows)):
        if rows[index][place] != 0:
            return index
    return None


def clear_below(rows, place, divisor):
    """Take multiples of one row from those below; the quotients by the divisor have no rest."""
    many = len(rows)
    pivot = rows[place][place]
    for index in range(place + 1, many):
        head = rows[index][place]
        for further in range(place + 1, many):
            change = rows[index][further] * pivot - head * rows[place][further]
            rows[index][further] = change // divisor


def determinant(table):
    """The determinant of a square table of integers; 1 without rows."""
    rows = [list(row) for row in table]
    many = len(rows)
    result = 1
    divisor = 1
    for place in range(many):
        index = pivot_row(rows, place)
        if index is None:
            return 0
        if index != place:
            rows[index], rows[place] = rows[place], rows[index]
            result = -result
        clear_below(rows, place, divisor)
        divisor = rows[place][place]
    return result * divisor


def sylvester_table(one, other):
    """The square table whose determinant is the resultant of two polynomials other than 0."""
    first, second = len(one) - 1, len(other) - 1
    rows = []
    for place in range(second):
        rows.append([0] * place + list(one[::-1]) + [0] * (second - 1 - place))
    for place in range(first):
        rows.append([0] * place + list(other[::-1]) + [0] * (first - 1 - place))
    return rows


def resultant_number(one, other):
    """The resultant of two polynomials other than 0."""
    return determinant(sylvester_table(one, other))


def discriminant_number(polynomial, derivative):
    """The discriminant of a polynomial of a degree from 1 on, told with its derivative."""
    degree = len(polynomial) - 1
    number = resultant_number(polynomial, derivative) // polynomial[-1]
    if degree * (degree - 1) // 2 % 2 == 1:
        return -number
    return number
