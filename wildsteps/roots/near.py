"""Judging near roots by values."""

from wildsteps.fields.members import minus, value_in
from wildsteps.roots.over import derived_over, value_over


def slope_value(field, polynomial, member):
    """The value of the derivative at a member, None for 0."""
    return value_in(field, value_over(field, derived_over(polynomial), member))


def is_value_above(value, bound):
    """Whether a value, None being endless, is above a bound."""
    return value is None or value > bound


def is_root_near(field, polynomial, member):
    """Whether a member is a near root."""
    slope = slope_value(field, polynomial, member)
    if slope is None:
        return False
    return is_value_above(value_in(field, value_over(field, polynomial, member)), 2 * slope)


def are_of_one_root(field, one, other, slope):
    """Whether two near roots of one polynomial, the slope having this value, are of one root."""
    return is_value_above(value_in(field, minus(one, other)), slope)
