"""Near roots of polynomials over a field, or fences that show that there are none."""

from wildsteps.errors import InvalidOperation, Refused, TooMany
from wildsteps.fields.fields import check_field, check_member, has_member_form
from wildsteps.fields.members import nearest, value_in
from wildsteps.prime.numbers import check_level
from wildsteps.roots.balls import count_by_depth, leaf_count, leaves_of, root_by_depth, root_member
from wildsteps.roots.balls import roots_by_depth, scale_by_depth, searched
from wildsteps.roots.depths import resultant_value
from wildsteps.roots.fences import judged_fence
from wildsteps.roots.near import are_of_one_root, is_root_near, slope_value
from wildsteps.roots.over import check_over, derived_over, has_over_form, value_over
from wildsteps.roots.scales import lifted_near

MAX_OVER_DEGREE = 6
MAX_DEPTH = 66
MAX_BALLS = 5000


def is_polynomial_over(field, value):
    """Whether the value is a polynomial over the field of a degree from 1 to 6."""
    check_field(field)
    return has_over_form(field, value)


def check_polynomial_over(field, polynomial):
    """Refuse what is no field, and what is no polynomial over it."""
    check_field(field)
    check_over(field, polynomial)


def value_at(field, polynomial, member):
    """The value of the polynomial at a member, with integers of any length."""
    check_polynomial_over(field, polynomial)
    check_member(field, member)
    return value_over(field, polynomial, member)


def slope_at(field, polynomial, member):
    """The value of the derivative at a member, with integers of any length."""
    check_polynomial_over(field, polynomial)
    check_member(field, member)
    return value_over(field, derived_over(polynomial), member)


def is_near_root(field, polynomial, value):
    """Whether the value is a near root."""
    check_polynomial_over(field, polynomial)
    return has_member_form(field, value) and is_root_near(field, polynomial, value)


def check_near_root(field, polynomial, member):
    """Refuse a member that is no near root."""
    if not is_root_near(field, polynomial, member):
        raise InvalidOperation("no near root")


def are_one_root(field, polynomial, one, other):
    """Whether two near roots are of one root."""
    check_polynomial_over(field, polynomial)
    check_member(field, one)
    check_member(field, other)
    check_near_root(field, polynomial, one)
    check_near_root(field, polynomial, other)
    return are_of_one_root(field, one, other, slope_value(field, polynomial, one))


def nearer_root(field, polynomial, member, level):
    """A near root of the same root that is near to this root to the level."""
    check_polynomial_over(field, polynomial)
    check_member(field, member)
    check_level(level)
    check_near_root(field, polynomial, member)
    slope = slope_value(field, polynomial, member)
    height = value_in(field, value_over(field, polynomial, member))
    if height is None or height >= level + slope:
        return member
    # The root is nearer to the member than to this level, so the level is above that of the slope.
    return nearest(field, lifted_near(field, polynomial, member, slope, level), level)


def depth_of(field, polynomial):
    """The depth of the polynomial, None for one with a double root."""
    check_polynomial_over(field, polynomial)
    return resultant_value(field, polynomial)


def depth_to_search(field, polynomial):
    """The depth, refused if there is none, or if it is too great."""
    depth = depth_of(field, polynomial)
    if depth is None:
        raise Refused(("double",))
    if depth > MAX_DEPTH:
        raise TooMany(MAX_DEPTH)
    return depth


def near_root(field, polynomial):
    """A near root, None if there is none."""
    return root_by_depth(field, polynomial, depth_to_search(field, polynomial))


def told_fence(field, search):
    """The coarsest fence, refused if it has too many balls."""
    if leaf_count(field, search) > MAX_BALLS:
        raise TooMany(MAX_BALLS)
    return leaves_of(field, search)


def fence(field, polynomial):
    """The coarsest fence, None if there is none."""
    search = searched(scale_by_depth(field, depth_to_search(field, polynomial)), polynomial, 1)
    if len(search.found) > 0:
        return None
    return told_fence(field, search)


def root_or_fence(field, polynomial):
    """The pair of the word for a near root, or for a fence, and of one of them."""
    scale = scale_by_depth(field, depth_to_search(field, polynomial))
    search = searched(scale, polynomial, 1)
    if len(search.found) > 0:
        row, value, numbers = search.found[0]
        return ("root", root_member(scale, row, value, numbers))
    return ("fence", told_fence(field, search))


def roots_number(field, polynomial):
    """How many roots there are."""
    return count_by_depth(field, polynomial, depth_to_search(field, polynomial))


def near_roots(field, polynomial):
    """Near roots, one of each root, in the order of the rows of digits."""
    return roots_by_depth(field, polynomial, depth_to_search(field, polynomial))


def is_fence(field, polynomial, value):
    """Whether the value is a fence of at most 5,000 balls of levels of at most 67."""
    check_polynomial_over(field, polynomial)
    return judged_fence(field, polynomial, value)
