"""Roots of one whose order is a power of the prime, and members that make all roots of one."""

from wildsteps.fields.members import nearest, times, whole
from wildsteps.fields.plain import one_root
from wildsteps.fields.residues import first_maker, residue_of, residue_order
from wildsteps.prime.whole import whole_power
from wildsteps.roots.balls import root_by_depth
from wildsteps.roots.near import slope_value
from wildsteps.roots.over import whole_over
from wildsteps.roots.scales import lifted_near


def wild_polynomial(prime, exponent):
    """The polynomial whose roots are the roots of one of the order p ** exponent."""
    width = whole_power(prime, exponent - 1)
    numbers = [0] * (width * (prime - 1) + 1)
    for often in range(prime):
        numbers[width * often] = 1
    return tuple(numbers)


def wild_depth(field, exponent):
    """The value of the discriminant of this polynomial in a field."""
    prime = field.prime
    return field.step_size * whole_power(prime, exponent - 1) * (prime * exponent - exponent - 1)


def may_be_wild(field, exponent):
    """Whether the step size lets a root of one of the order p ** exponent be in the field."""
    return field.step_size % ((field.prime - 1) * whole_power(field.prime, exponent - 1)) == 0


def wild_exponent(field):
    """The greatest exponent for which a root of one of the order p ** exponent is in the full field, and a near one.

    The near one is a near root of its polynomial; it is None for the exponent 0.
    """
    exponent, found = 0, None
    while may_be_wild(field, exponent + 1):
        numbers = whole_over(field, wild_polynomial(field.prime, exponent + 1))
        root = root_by_depth(field, numbers, wild_depth(field, exponent + 1))
        if root is None:
            break
        exponent, found = exponent + 1, root
    return exponent, found


def count_of_ones(field):
    """How many roots of one are in the full field."""
    exponent, _ = wild_exponent(field)
    return (field.residues - 1) * whole_power(field.prime, exponent)


def wild_root(field, level):
    """A member near to a root of one of the greatest order that is a power of the prime, and this order."""
    exponent, root = wild_exponent(field)
    if exponent == 0:
        return whole(field, 1), 1
    numbers = whole_over(field, wild_polynomial(field.prime, exponent))
    near = lifted_near(field, numbers, root, slope_value(field, numbers, root), level)
    return nearest(field, near, level), whole_power(field.prime, exponent)


def maker_of_ones(field, level):
    """A member near to a root of one of which all others are powers."""
    root, _ = wild_root(field, level)
    return nearest(field, times(field, one_root(field, first_maker(field), level), root), level)


def does_make_ones(field, level, member):
    """Whether a member is near to such a root of one."""
    if level == 0:
        return True
    digit = residue_of(field, member[0])
    if not any(digit) or residue_order(field, digit) != field.residues - 1:
        return False
    # The root of one of the first digit is told by it; what is left has an order that is a power of the prime.
    root, order = wild_root(field, level)
    wanted = nearest(field, member, level)
    near = one_root(field, digit, level)
    for exponent in range(1, order + 1):
        near = nearest(field, times(field, near, root), level)
        if (order == 1 or exponent % field.prime != 0) and near == wanted:
            return True
    return False
