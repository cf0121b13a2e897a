"""Broken lines: hulls of points, lines of polynomials, and residual polynomials of their sides."""

from wildsteps.checks import check_polynomial, has_short_integers, is_any_integer, is_any_ratio, is_between
from wildsteps.checks import is_integer_tuple
from wildsteps.errors import InvalidNumber, InvalidOperation, Refused, TooMany
from wildsteps.prime.modulo import monic_factors
from wildsteps.prime.numbers import check_prime
from wildsteps.prime.whole import exponent_of, lowest_terms, whole_power

MAX_POINTS = 60
MAX_SIDES = 60


def is_point(value):
    """Whether the value is a pair of integers of at most sixty digits."""
    return is_integer_tuple(value) and len(value) == 2 and has_short_integers(value)


def are_points(value):
    """Whether the value is a tuple of points with ascending places."""
    if not isinstance(value, tuple) or not 1 <= len(value) <= MAX_POINTS:
        return False
    if not all([is_point(point) for point in value]):
        return False
    return all([value[k][0] < value[k + 1][0] for k in range(len(value) - 1)])


def check_points(points):
    """Refuse what are no points."""
    if not are_points(points):
        raise InvalidOperation("points are a tuple of 1 to 60 pairs with ascending places")


def does_bend(one, middle, other):
    """Whether the line over three points bends upwards at the middle one."""
    before = (middle[1] - one[1]) * (other[0] - middle[0])
    behind = (other[1] - middle[1]) * (middle[0] - one[0])
    return before < behind


def corners_of(points):
    """The corners of the hull."""
    corners = []
    for point in points:
        while len(corners) > 1 and not does_bend(corners[-2], corners[-1], point):
            corners.pop()
        corners.append(point)
    return tuple(corners)


def slope_between(one, other):
    """The slope of a side, a ratio."""
    return lowest_terms(other[1] - one[1], other[0] - one[0])


def line_between(corners):
    """The line with these corners."""
    many = len(corners)
    sides = [(corners[k], corners[k + 1]) for k in range(many - 1)]
    return tuple([(slope_between(one, other), other[0] - one[0]) for one, other in sides])


def hull_of(points):
    """The corners of the hull of points."""
    check_points(points)
    return corners_of(points)


def line_of_points(points):
    """The line of the hull of points."""
    check_points(points)
    return line_between(corners_of(points))


def height_at(points, place):
    """The height of the hull at a place, a ratio."""
    check_points(points)
    if not is_between(place, points[0][0], points[-1][0]):
        raise InvalidNumber(place)
    corners = corners_of(points)
    index = 0
    while corners[index][0] < place:
        index = index + 1
    other = corners[index]
    if other[0] == place:
        return (other[1], 1)
    one = corners[index - 1]
    width = other[0] - one[0]
    return lowest_terms(one[1] * width + (other[1] - one[1]) * (place - one[0]), width)


def is_less(one, other):
    """Whether a ratio is less than another one."""
    return one[0] * other[1] < other[0] * one[1]


def is_side(value):
    """Whether the value is a pair of a slope and a width."""
    if not isinstance(value, tuple) or len(value) != 2:
        return False
    slope, width = value
    return is_any_ratio(slope) and is_any_integer(width) and width >= 1


def is_line(value):
    """Whether the value is a line, with integers of any length."""
    if not isinstance(value, tuple) or len(value) > MAX_SIDES:
        return False
    if not all([is_side(side) for side in value]):
        return False
    return all([is_less(value[k][0], value[k + 1][0]) for k in range(len(value) - 1)])


def check_line(value):
    """Refuse what is no line with integers of at most sixty digits."""
    if not is_line(value) or not all([has_short_integers((*slope, width)) for slope, width in value]):
        raise InvalidOperation("no line with integers of at most sixty digits")


def merged_sides(one, other):
    """The sides of both lines in order, with the widths of equal slopes added."""
    sides = []
    left, right = 0, 0
    while left < len(one) or right < len(other):
        if right == len(other) or (left < len(one) and is_less(one[left][0], other[right][0])):
            sides.append(one[left])
            left = left + 1
        elif left == len(one) or is_less(other[right][0], one[left][0]):
            sides.append(other[right])
            right = right + 1
        else:
            sides.append((one[left][0], one[left][1] + other[right][1]))
            left, right = left + 1, right + 1
    return tuple(sides)


def joined_lines(one, other):
    """The line of the sides of both lines."""
    check_line(one)
    check_line(other)
    sides = merged_sides(one, other)
    if len(sides) > MAX_SIDES:
        raise TooMany(MAX_SIDES)
    return sides


def check_lined(prime, polynomial):
    """Refuse polynomials without a line."""
    check_prime(prime)
    check_polynomial(polynomial)
    if len(polynomial) < 2 or polynomial[0] == 0:
        raise InvalidOperation("the degree must be at least 1, and the polynomial not 0 at 0")


def points_of(prime, polynomial):
    """The points of a polynomial."""
    return tuple([(k, exponent_of(prime, number)) for k, number in enumerate(polynomial) if number != 0])


def line_of(prime, polynomial):
    """The line of a polynomial, seen from a prime."""
    check_lined(prime, polynomial)
    return line_between(corners_of(points_of(prime, polynomial)))


def sides_of(prime, polynomial):
    """The triples (corner, slope, width) of the sides of a polynomial's line."""
    corners = corners_of(points_of(prime, polynomial))
    line = line_between(corners)
    return [(corners[k], slope, width) for k, (slope, width) in enumerate(line)]


def rests_on_side(prime, polynomial, side):
    """The residual polynomial of a side."""
    (first, height), (rise, step), width = side
    rests = []
    for k in range(width // step + 1):
        scale = whole_power(prime, height + rise * k)
        rests.append(polynomial[first + step * k] // scale % prime)
    return tuple(rests)


def residual(prime, polynomial, slope):
    """The residual polynomial of the side with the slope."""
    check_lined(prime, polynomial)
    if is_any_ratio(slope):
        for side in sides_of(prime, polynomial):
            if side[1] == slope:
                return rests_on_side(prime, polynomial, side)
    raise InvalidNumber(slope)


def sided_factors(prime, polynomial):
    """The triples (step, degree, how often) of all factors of residual polynomials."""
    found = []
    for side in sides_of(prime, polynomial):
        for factor, count in monic_factors(prime, rests_on_side(prime, polynomial, side)):
            found.append((side[1][1], len(factor) - 1, count))
    return found


def is_regular(prime, polynomial):
    """Whether no residual polynomial has a factor twice."""
    check_lined(prime, polynomial)
    return all([found[2] == 1 for found in sided_factors(prime, polynomial)])


def line_sizes(prime, polynomial):
    """The pairs (step size, plain size) of the factors that a regular line tells."""
    if not is_regular(prime, polynomial):
        raise Refused(("double",))
    return tuple(sorted([found[:2] for found in sided_factors(prime, polynomial)]))
