"""Polynomials over a field: their form, their exact values, and their derivatives."""

from wildsteps.checks import has_short_integers
from wildsteps.errors import InvalidPolynomial
from wildsteps.fields.fields import has_member_form
from wildsteps.fields.members import entries_of, plus, times, times_whole, whole

MOST_OVER = 6


def is_zero(member):
    """Whether a member is 0."""
    return not any(entries_of(member))


def has_over_form(field, value):
    """Whether the value is a polynomial over the field of a degree from 1 to 6, with integers of any length."""
    if not isinstance(value, tuple) or not 2 <= len(value) <= MOST_OVER + 1:
        return False
    return all([has_member_form(field, number) for number in value]) and not is_zero(value[-1])


def check_over(field, polynomial):
    """Refuse what is no polynomial over the field of a degree from 1 to 6."""
    if not has_over_form(field, polynomial):
        raise InvalidPolynomial("no polynomial over the field of a degree from 1 to 6")
    if not all([has_short_integers(entries_of(number)) for number in polynomial]):
        raise InvalidPolynomial("integers of more than sixty digits")


def value_over(field, numbers, member):
    """The value of a polynomial over the field at a member."""
    result = numbers[-1]
    for number in numbers[-2::-1]:
        result = plus(times(field, result, member), number)
    return result


def derived_over(numbers):
    """The derivative of a polynomial over a field."""
    return tuple([times_whole(numbers[place], place) for place in range(1, len(numbers))])


def whole_over(field, polynomial):
    """A polynomial with integers as one over the field."""
    return tuple([whole(field, number) for number in polynomial])
