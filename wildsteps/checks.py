"""Judgements about the kinds of passed values that all stages share."""

from math import gcd

from wildsteps.errors import InvalidNumber, InvalidPolynomial, TooMany

DIGIT_LIMIT = 60
FIRST_LONG = 10 ** 60
DEGREE_LIMIT = 8


def is_any_integer(value):
    """Whether the value is an integer of any length."""
    return isinstance(value, int) and not isinstance(value, bool)


def is_short_integer(value):
    """Whether the value is an integer of at most sixty digits."""
    return is_any_integer(value) and -FIRST_LONG < value < FIRST_LONG


def is_between(value, least, most):
    """Whether the value is an integer within both bounds."""
    return is_any_integer(value) and least <= value <= most


def is_any_ratio(value):
    """Whether the value is a ratio in lowest terms, with integers of any length."""
    if not isinstance(value, tuple) or len(value) != 2:
        return False
    top, bottom = value
    if not is_any_integer(top) or not is_any_integer(bottom):
        return False
    return bottom > 0 and gcd(top, bottom) == 1


def is_any_number(value):
    """Whether the value is an integer or a ratio, with integers of any length."""
    return is_any_integer(value) or is_any_ratio(value)


def is_short_number(value):
    """Whether the value is a number, with integers of at most sixty digits."""
    if is_any_ratio(value):
        return has_short_integers(value)
    return is_short_integer(value)


def has_short_integers(integers):
    """Whether all of these integers have at most sixty digits."""
    return all([-FIRST_LONG < number < FIRST_LONG for number in integers])


def is_integer_tuple(value):
    """Whether the value is a tuple of integers of any length."""
    return isinstance(value, tuple) and all([is_any_integer(number) for number in value])


def is_short_polynomial(value):
    """Whether the value is a polynomial with integers of at most sixty digits, of any degree."""
    if not is_integer_tuple(value) or not has_short_integers(value):
        return False
    return len(value) == 0 or value[-1] != 0


def check_between(value, least, most):
    """Refuse what is no integer within both bounds."""
    if not is_between(value, least, most):
        raise InvalidNumber(value)


def check_integer(value):
    """Refuse what is no integer of at most sixty digits."""
    if not is_short_integer(value):
        raise InvalidNumber(value)


def check_number(number):
    """Refuse what is no number with integers of at most sixty digits."""
    if not is_short_number(number):
        raise InvalidNumber(number)


def check_polynomial(polynomial):
    """Refuse what is no polynomial with integers of a degree to eight."""
    if not is_short_polynomial(polynomial) or len(polynomial) > DEGREE_LIMIT + 1:
        raise InvalidPolynomial("no polynomial with integers of a degree to 8")


def check_lengths(integers):
    """Refuse a result with an integer of more than sixty digits."""
    if not has_short_integers(integers):
        raise TooMany(DIGIT_LIMIT)
