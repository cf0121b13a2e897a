"""Polynomials over fields by a way of the tests' own: exact numbers in balls, fences by trying, resultants by blocks."""

from itertools import product
from math import comb

from tests import ring
from tests.tools import at_least, exponent
from wildsteps.fields.fields import digits_of


def all_digits(field):
    return list(product(range(field.prime), repeat=field.plain_size))


def with_zeros(field, low_member):
    return (tuple(low_member),) + ((0,) * field.plain_size,) * (field.step_size - 1)


def letter(field, k):
    """r ** k."""
    return ring.power(field, ring.letters(field)[1], k)


def member_in(field, ball):
    """The member with the digits of a ball, exactly."""
    total, r = ring.whole(field, 0), ring.letters(field)[1]
    for digit in ball[::-1]:
        total = ring.added(ring.product(field, total, r), with_zeros(field, digit))
    return total


def value_at(field, g, m):
    total = ring.whole(field, 0)
    for number in g[::-1]:
        total = ring.added(ring.product(field, total, m), number)
    return total


def scaled(member, number):
    return tuple(tuple(number * entry for entry in row) for row in member)


def derivative(g):
    return tuple(scaled(g[k], k) for k in range(1, len(g)))


def from_roots(field, roots, last=None):
    """The product of all x - root, times a last member."""
    result = [last or ring.whole(field, 1)]
    for root in roots:
        longer = [ring.whole(field, 0)] + result
        for k, number in enumerate(result):
            longer[k] = ring.added(longer[k], ring.product(field, number, root), -1)
        result = longer
    return tuple(result)


def over_product(field, one, other):
    result = [ring.whole(field, 0)] * (len(one) + len(other) - 1)
    for i, a in enumerate(one):
        for k, b in enumerate(other):
            result[i + k] = ring.added(result[i + k], ring.product(field, a, b))
    return tuple(result)


def whole_over(field, numbers):
    return tuple(ring.whole(field, number) for number in numbers)


def numbers_in(field, g, ball):
    """The numbers of g(m + r ** k x), exactly."""
    m, step = member_in(field, ball), letter(field, len(ball))
    powers = [ring.whole(field, 1)]
    for _ in g:
        powers.append(ring.product(field, powers[-1], m))
    result, scale = [], ring.whole(field, 1)
    for i in range(len(g)):
        total = ring.whole(field, 0)
        for k in range(i, len(g)):
            total = ring.added(total, scaled(ring.product(field, g[k], powers[k - i]), comb(k, i)))
        result.append(ring.product(field, total, scale))
        scale = ring.product(field, scale, step)
    return result


def digit_at(field, member, k):
    """The digit with the index k of a member whose value is at least k."""
    modulus = field.prime ** (k // field.step_size + 2)
    return digits_of(field, tuple(tuple(n % modulus for n in row) for row in member), k + 1)[k]


def rests_in(field, g, ball):
    """The least value of the numbers in a ball, and what they leave, divided by r to this value."""
    numbers = numbers_in(field, g, ball)
    least = min(v for v in (ring.value(field, number) for number in numbers) if v is not None)
    return least, [digit_at(field, number, least) for number in numbers]


def roots_modulo(field, rests):
    found = []
    for digit in all_digits(field):
        total = (0,) * field.plain_size
        for rest in rests[::-1]:
            moved = ring.low_field_product(field, total, digit)
            total = tuple((a + b) % field.prime for a, b in zip(moved, rest))
        if not any(total):
            found.append(digit)
    return found


def closed_value(field, g, ball):
    """The value with which a ball is closed, None if it is not."""
    least, rests = rests_in(field, g, ball)
    return None if roots_modulo(field, rests) else least


def coarsest(field, g, deepest=8, ball=()):
    """The coarsest fence, None if some ball of the deepest level is not closed."""
    value = closed_value(field, g, ball)
    if value is not None:
        return ((ball, value),)
    if len(ball) == deepest:
        return None
    found = ()
    for digit in all_digits(field):
        inner = coarsest(field, g, deepest, ball + (digit,))
        if inner is None:
            return None
        found += inner
    return found


def is_near_root(field, g, m):
    height, slope = (ring.value(field, value_at(field, h, m)) for h in (g, derivative(g)))
    return slope is not None and at_least(height, 2 * slope + 1)


def members_to(field, level):
    return [member_in(field, row) for row in product(all_digits(field), repeat=level)]


def integer_determinant(rows):
    """Without fractions: all divisions leave nothing."""
    rows, last, sign = [list(row) for row in rows], 1, 1
    for k in range(len(rows)):
        at = next((i for i in range(k, len(rows)) if rows[i][k]), None)
        if at is None:
            return 0
        if at != k:
            rows[at], rows[k], sign = rows[k], rows[at], -sign
        for i in range(k + 1, len(rows)):
            rows[i] = [(a * rows[k][k] - rows[i][k] * b) // last for a, b in zip(rows[i], rows[k])]
        last = rows[k][k]
    return sign * last


def depth(field, g):
    """The value of the resultant of g and g': the norm of it is the determinant of the table of blocks."""
    h, n = derivative(g), len(g) - 1
    zero = ring.whole(field, 0)
    rows = [[zero] * k + list(g[::-1]) + [zero] * (n - 2 - k) for k in range(n - 1)]
    rows += [[zero] * k + list(h[::-1]) + [zero] * (n - 1 - k) for k in range(n)]
    tables = [[ring.table(field, entry) for entry in row] for row in rows]
    wide = [[entry for table in line for entry in table[i]] for line in tables for i in range(field.degree)]
    number = integer_determinant(wide)
    return None if number == 0 else exponent(field.prime, number) // field.plain_size
