"""Sums, products and comparisons of ratios in lowest terms."""

from wildsteps.checks import check_number
from wildsteps.errors import InvalidNumber
from wildsteps.prime.lines import is_less
from wildsteps.prime.numbers import top_and_bottom
from wildsteps.prime.whole import lowest_terms


def ratio_sum(one, other):
    """The sum of two ratios."""
    return lowest_terms(one[0] * other[1] + other[0] * one[1], one[1] * other[1])


def ratio_times(one, number):
    """A ratio times an integer."""
    return lowest_terms(one[0] * number, one[1])


def ratio_by(one, number):
    """A ratio divided by an integer above 0."""
    return lowest_terms(one[0], one[1] * number)


def lesser_ratio(one, other):
    """The lesser one of two ratios."""
    if is_less(one, other):
        return one
    return other


def ratio_from(number, least):
    """The ratio of a passed number, refused if it is none or below the least integer that is let."""
    check_number(number)
    ratio = top_and_bottom(number)
    if is_less(ratio, (least, 1)):
        raise InvalidNumber(number)
    return ratio
