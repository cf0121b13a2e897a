"""Polynomials over a field whose roots have the value 1 over it, and the fields that these make."""

from wildsteps.checks import has_short_integers
from wildsteps.errors import InvalidPolynomial, TooMany
from wildsteps.fields.fields import Field
from wildsteps.fields.members import entries_of, minus, times, times_whole, value_in, whole
from wildsteps.fields.tables import low_sums, numbers_by_sums, plain_trace
from wildsteps.roots.over import check_over

MOST_DEGREE = 6
MOST_LENGTH = 60


def check_tower(field, polynomial):
    """Refuse what makes no field by a member of value 1."""
    check_over(field, polynomial)
    if polynomial[-1] != whole(field, 1) or value_in(field, polynomial[0]) != 1:
        raise InvalidPolynomial("not monic, or the first member is not of the value 1")
    if 0 in [value_in(field, number) for number in polynomial[:-1]]:
        raise InvalidPolynomial("a member of the value 0")


def power_sums(field, polynomial, many):
    """The sums of the powers of the roots of a monic polynomial over a field, from the first one on."""
    degree = len(polynomial) - 1
    sums = []
    for count in range(1, many + 1):
        total = whole(field, 0)
        if count <= degree:
            total = times_whole(polynomial[degree - count], -count)
        for place in range(1, min(count - 1, degree) + 1):
            total = minus(total, times(field, polynomial[degree - place], sums[count - place - 1]))
        sums.append(total)
    return sums


def norm_over(field, polynomial):
    """The norm of a monic polynomial over a field to its plain part."""
    low = field.low
    rows = low_sums(low, field.top)
    many = (len(polynomial) - 1) * field.step_size
    return numbers_by_sums(low, [plain_trace(low, rows, total) for total in power_sums(field, polynomial, many)])


def tower_over(field, polynomial):
    """The field that a root of a checked polynomial makes."""
    if (len(polynomial) - 1) * field.degree > MOST_DEGREE:
        raise TooMany(MOST_DEGREE)
    top = norm_over(field, polynomial)
    if not has_short_integers(entries_of(top)):
        raise TooMany(MOST_LENGTH)
    return Field(field.prime, field.low, top)
