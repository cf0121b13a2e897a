"""Reckoning in fields by a way of the tests' own: sums over t ** i r ** j in dicts, tables by permutations."""

from fractions import Fraction
from itertools import permutations

from tests.tools import exponent


def dict_of(member):
    return {(i, j): number for j, row in enumerate(member) for i, number in enumerate(row) if number}


def member_from(field, told):
    e, f = len(field.top) - 1, len(field.low) - 1
    return tuple(tuple(told.get((i, j), 0) for i in range(f)) for j in range(e))


def reduced(field, told):
    """Replace t ** f and r ** e by their lower members until none is left."""
    e, f = len(field.top) - 1, len(field.low) - 1
    told = {key: number for key, number in told.items() if number}
    while True:
        high = [key for key in told if key[1] >= e] or [key for key in told if key[0] >= f]
        if not high:
            return told
        i, j = max(high, key=lambda key: (key[1], key[0]))
        number = told.pop((i, j))
        if j >= e:
            changes = {(i + k, j - e + m): c for m in range(e) for k, c in enumerate(field.top[m])}
        else:
            changes = {(i - f + k, j): c for k, c in enumerate(field.low[:-1])}
        for key, c in changes.items():
            told[key] = told.get(key, 0) - number * c
            if not told[key]:
                del told[key]


def product(field, one, other):
    told = {}
    for (i, j), a in dict_of(one).items():
        for (k, m), b in dict_of(other).items():
            told[i + k, j + m] = told.get((i + k, j + m), 0) + a * b
    return member_from(field, reduced(field, told))


def power(field, member, n):
    result = whole(field, 1)
    for _ in range(n):
        result = product(field, result, member)
    return result


def whole(field, number):
    return member_from(field, {(0, 0): number})


def added(one, other, sign=1):
    return tuple(tuple(a + sign * b for a, b in zip(row, further)) for row, further in zip(one, other))


def letters(field):
    return (member_from(field, reduced(field, {(1, 0): 1})), member_from(field, reduced(field, {(0, 1): 1})))


def value(field, member):
    """The least e v + j, None for 0."""
    e = len(field.top) - 1
    values = [e * exponent(field.prime, number) + j for (i, j), number in dict_of(member).items()]
    return min(values) if values else None


def near(field, one, other, level):
    told = value(field, added(one, other, -1))
    return told is None or told >= level


def table(field, member):
    e, f = len(field.top) - 1, len(field.low) - 1
    rows = []
    for i in range(f):
        for j in range(e):
            image = product(field, member, member_from(field, {(i, j): 1}))
            rows.append([image[m][k] for k in range(f) for m in range(e)])
    return rows


def sign_of(order):
    swaps = sum(order[a] > order[b] for b in range(len(order)) for a in range(b))
    return -1 if swaps % 2 else 1


def determinant(rows):
    total = 0
    for order in permutations(range(len(rows))):
        term = sign_of(order)
        for place, at in enumerate(order):
            term *= rows[place][at]
        total += term
    return total


def fast_determinant(rows):
    """By elimination with fractions."""
    rows = [[Fraction(x) for x in row] for row in rows]
    result = Fraction(1)
    for k in range(len(rows)):
        at = next((i for i in range(k, len(rows)) if rows[i][k]), None)
        if at is None:
            return 0
        if at != k:
            rows[k], rows[at] = rows[at], rows[k]
            result = -result
        result *= rows[k][k]
        for i in range(k + 1, len(rows)):
            share = rows[i][k] / rows[k][k]
            rows[i] = [a - share * b for a, b in zip(rows[i], rows[k])]
    return int(result)


def low_field_product(field, one, other):
    """The product of two low members."""
    e = len(field.top) - 1
    empty = (tuple([0] * len(one)),) * (e - 1)
    return product(field, (one,) + empty, (other,) + empty)[0]


def plain_determinant(field, rows):
    """The determinant of a table of polynomials in x with low members as entries: dicts by power of x."""
    total = {}
    f = len(field.low) - 1
    for order in permutations(range(len(rows))):
        term = {0: tuple([sign_of(order)] + [0] * (f - 1))}
        for place, at in enumerate(order):
            further = {}
            for x, a in term.items():
                for y, b in rows[place][at].items():
                    c = low_field_product(field, a, b)
                    further[x + y] = tuple(p + q for p, q in zip(further.get(x + y, (0,) * f), c))
            term = further
        for x, a in term.items():
            total[x] = tuple(p + q for p, q in zip(total.get(x, (0,) * f), a))
    return total


def plain_polynomial(field, member):
    """det(x - table) over the plain part."""
    e, f = len(field.top) - 1, len(field.low) - 1
    one = (1,) + (0,) * (f - 1)
    rows = []
    for j in range(e):
        image = product(field, member, member_from(field, {(0, j): 1}))
        row = [{0: tuple(-c for c in image[m])} for m in range(e)]
        row[j][1] = one
        rows.append(row)
    total = plain_determinant(field, rows)
    return tuple(total.get(k, (0,) * f) for k in range(e + 1))
