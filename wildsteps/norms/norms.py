"""Norms of fields: places of numbers, the rows and the index of the norms, members and tests."""

from math import gcd

from wildsteps.checks import is_any_integer, is_between
from wildsteps.errors import InvalidTest
from wildsteps.fields.fields import check_field, has_member_form
from wildsteps.fields.tables import whole_norm
from wildsteps.norms.makers import member_with_norm, norm_makers, rows_of_norms
from wildsteps.norms.places import check_number_not_zero, check_place_level, level_of_powers, orders_of, place_of
from wildsteps.norms.places import unit_modulo
from wildsteps.norms.rows import column_of_inverse, heads_product, shares_in, sum_of_ratios
from wildsteps.prime.numbers import check_prime, top_and_bottom
from wildsteps.prime.whole import exponent_of, whole_power
from wildsteps.roots.over import is_zero

MAX_BOTTOM = 10 ** 6


def norm_level(field):
    """The norm level of a field."""
    check_field(field)
    return level_of_powers(field.prime, field.degree)


def number_place(prime, number, level):
    """The place of a number for a level."""
    check_prime(prime)
    check_number_not_zero(number)
    check_place_level(prime, level)
    return place_of(prime, number, level)


def norm_rows(field):
    """The rows that tell the places of all norms."""
    check_field(field)
    return rows_of_norms(norm_makers(field))


def norm_index(field):
    """The index of the norms among all numbers other than 0."""
    return heads_product(norm_rows(field))


def check_normed(field, number):
    """Refuse what is no field, and what is no number other than 0."""
    check_field(field)
    check_number_not_zero(number)


def norm_member(field, number):
    """A member that shows that the number is a norm, None if there is none."""
    check_normed(field, number)
    return member_with_norm(norm_makers(field), number)


def has_norm(field, number, norm):
    """Whether a number is a norm, but for powers of p ** n and units near to 1."""
    prime = field.prime
    top, bottom = top_and_bottom(number)
    if (exponent_of(prime, top) - exponent_of(prime, bottom) - exponent_of(prime, norm)) % field.degree != 0:
        return False
    modulus = whole_power(prime, level_of_powers(prime, field.degree))
    return unit_modulo(prime, top, bottom * norm, modulus) == 1


def is_norm_member(field, number, value):
    """Whether the value is such a member."""
    check_normed(field, number)
    if not has_member_form(field, value) or is_zero(value):
        return False
    return has_norm(field, number, whole_norm(field, value))


def turned_to_test(ratios):
    """Ratios modulo 1."""
    return tuple([(top % bottom, bottom) for top, bottom in ratios])


def test_value(test, place):
    """The value of a test at a place, modulo 1."""
    top, bottom = sum_of_ratios([(share[0] * number, share[1]) for share, number in zip(test, place)])
    return (top % bottom, bottom)


def norm_test(field, number):
    """A test that shows that the number is no norm, None if there is none."""
    check_normed(field, number)
    rows = rows_of_norms(norm_makers(field))
    shares, left = shares_in(rows, place_of(field.prime, number, level_of_powers(field.prime, field.degree)))
    for place, rest in enumerate(left):
        if rest != 0:
            # Of all rows, this column of the inverse takes the one with its index alone to 1, and others to 0.
            return turned_to_test(column_of_inverse(rows, place))
    return None


def is_test_pair(value):
    """Whether the value is a fraction from 0 on and below 1, in lowest terms, with a bottom that is let."""
    if not isinstance(value, tuple) or len(value) != 2:
        return False
    if not is_any_integer(value[0]) or not is_between(value[1], 1, MAX_BOTTOM):
        return False
    return 0 <= value[0] < value[1] and gcd(value[0], value[1]) == 1


def has_test_form(value, width):
    """Whether the value is a tuple of so many such fractions."""
    return isinstance(value, tuple) and len(value) == width and all([is_test_pair(pair) for pair in value])


def is_norm_test(field, number, value):
    """Whether the value is such a test."""
    check_normed(field, number)
    rows = rows_of_norms(norm_makers(field))
    if not has_test_form(value, len(rows)):
        return False
    if any([test_value(value, row)[0] for row in rows]):
        return False
    place = place_of(field.prime, number, level_of_powers(field.prime, field.degree))
    return test_value(value, place)[0] != 0


def check_test(prime, level, test):
    """Refuse what is no tuple of fractions, or what hangs on multiples of the orders."""
    orders = orders_of(prime, level)
    if not has_test_form(test, len(orders) + 1):
        raise InvalidTest("no tuple of fractions, one for each coordinate")
    if any([order % pair[1] for order, pair in zip(orders, test[1:])]):
        raise InvalidTest("a bottom that does not divide the order")


def test_at(prime, level, test, number):
    """The value of a test for a level at a number."""
    check_prime(prime)
    check_place_level(prime, level)
    check_test(prime, level, test)
    check_number_not_zero(number)
    return test_value(test, place_of(prime, number, level))
