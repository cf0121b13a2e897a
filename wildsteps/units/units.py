"""Units of a field: their levels and inverses, roots of one, powers, exponentials and logarithms."""

from math import gcd

from wildsteps.checks import check_between
from wildsteps.errors import InvalidOperation
from wildsteps.fields.fields import check_field, check_member, has_member_form
from wildsteps.fields.members import are_close, minus, nearest, plain_depth, rests_to, times, times_whole, value_in
from wildsteps.fields.members import whole
from wildsteps.fields.near import near_inverse
from wildsteps.fields.plain import is_told_near
from wildsteps.prime.numbers import check_level
from wildsteps.prime.whole import exponent_of, whole_power
from wildsteps.roots.fences import judged_fence
from wildsteps.roots.near import is_root_near
from wildsteps.roots.over import is_zero
from wildsteps.roots.roots import root_or_fence
from wildsteps.units.ones import count_of_ones, does_make_ones, maker_of_ones
from wildsteps.units.series import does_converge, exponential_near, logarithm_near

MAX_POWER = 6


def is_unit(field, value):
    """Whether the value is a member of the value 0."""
    check_field(field)
    return has_member_form(field, value) and value_in(field, value) == 0


def check_unit(field, member):
    """Refuse what is no field, no member of it, and no unit."""
    check_field(field)
    check_member(field, member)
    if value_in(field, member) != 0:
        raise InvalidOperation("no unit")


def level_of(field, unit):
    """The value of a unit less 1, None for 1."""
    return value_in(field, minus(unit, whole(field, 1)))


def unit_level(field, member):
    """The level of a unit, None for 1."""
    check_unit(field, member)
    return level_of(field, member)


def unit_inverse(field, member, level):
    """A member whose product with a unit is near to 1 to the level."""
    check_unit(field, member)
    check_level(level)
    modulus = whole_power(field.prime, plain_depth(field, level))
    return nearest(field, near_inverse(field, rests_to(member, modulus), modulus), level)


def is_unit_inverse(field, member, level, value):
    """Whether the value is a member whose product with a unit is near to 1 to the level."""
    check_unit(field, member)
    check_level(level)
    return has_member_form(field, value) and are_close(field, times(field, member, value), whole(field, 1), level)


def ones_number(field):
    """How many roots of one are in the full field."""
    check_field(field)
    return count_of_ones(field)


def ones_maker(field, level):
    """A member that is near to a root of one of which all others are powers."""
    check_field(field)
    check_level(level)
    return maker_of_ones(field, level)


def is_ones_maker(field, level, value):
    """Whether the value is such a member."""
    check_field(field)
    check_level(level)
    return has_member_form(field, value) and does_make_ones(field, level, value)


def power_index(field, exponent):
    """The index of the powers with the exponent among all numbers of the full field other than 0."""
    check_field(field)
    check_between(exponent, 1, MAX_POWER)
    share = whole_power(field.prime, field.degree * exponent_of(field.prime, exponent))
    return exponent * share * gcd(exponent, count_of_ones(field))


def check_rooted(field, member, exponent):
    """Refuse what is no field, no member, the member 0, and what is no exponent."""
    check_field(field)
    check_member(field, member)
    if is_zero(member):
        raise InvalidOperation("the member 0")
    check_between(exponent, 1, MAX_POWER)


def power_polynomial(field, member, exponent):
    """The polynomial whose roots are the roots of a member."""
    between = (whole(field, 0),) * (exponent - 1)
    return (times_whole(member, -1),) + between + (whole(field, 1),)


def power_root(field, member, exponent):
    """A paper on whether a member is a power in the full field."""
    check_rooted(field, member, exponent)
    return root_or_fence(field, power_polynomial(field, member, exponent))


def is_power_root(field, member, exponent, value):
    """Whether the value is such a paper."""
    check_rooted(field, member, exponent)
    if not isinstance(value, tuple) or len(value) != 2 or not isinstance(value[0], str):
        return False
    polynomial = power_polynomial(field, member, exponent)
    if value[0] == "root":
        return has_member_form(field, value[1]) and is_root_near(field, polynomial, value[1])
    return value[0] == "fence" and judged_fence(field, polynomial, value[1])


def check_exponent_told(field, member):
    """Refuse what is no field, no member of it, and a member without an exponential."""
    check_field(field)
    check_member(field, member)
    if not does_converge(field, value_in(field, member)):
        raise InvalidOperation("no value above e / (p - 1)")


def exponential(field, member, level):
    """A member near to the exponential of a member to the level."""
    check_exponent_told(field, member)
    check_level(level)
    return exponential_near(field, member, level)


def is_exponential(field, member, level, value):
    """Whether the value is such a member."""
    check_exponent_told(field, member)
    check_level(level)
    return is_told_near(field, value, exponential_near(field, member, level), level)


def check_logarithm_told(field, member):
    """Refuse what is no field, no member of it, and a member without a logarithm."""
    check_unit(field, member)
    if not does_converge(field, level_of(field, member)):
        raise InvalidOperation("no level above e / (p - 1)")


def logarithm(field, member, level):
    """A member near to the logarithm of a unit to the level."""
    check_logarithm_told(field, member)
    check_level(level)
    return logarithm_near(field, member, level)


def is_logarithm(field, member, level, value):
    """Whether the value is such a member."""
    check_logarithm_told(field, member)
    check_level(level)
    return is_told_near(field, value, logarithm_near(field, member, level), level)
