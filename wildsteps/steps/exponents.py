"""Exponents of fields, how many fields there are, and the one sum that tells whether a tuple is complete."""

from wildsteps.checks import check_between
from wildsteps.errors import InvalidField, InvalidNumber, InvalidOperation
from wildsteps.fields.fields import Field, check_field
from wildsteps.fields.members import letter_members, times
from wildsteps.fields.steps import letter_slope
from wildsteps.fields.tables import number_trace, trace_rows
from wildsteps.prime.determinants import determinant
from wildsteps.prime.numbers import check_prime
from wildsteps.prime.whole import lowest_terms, whole_power
from wildsteps.roots.leads import lead_count
from wildsteps.steps.counts import count_in_closure, counts_by_step, divisors_of, does_step_occur, steps_that_occur
from wildsteps.steps.ratios import ratio_sum

MOST_PLAIN = 12
MOST_STEP = 30
MOST_TOGETHER = 64
MOST_CLOSURE = 12


def steps_of(field):
    """The step number of a field."""
    return letter_slope(field) - field.step_size + 1


def different_exponent(field):
    """The value of the derivative of the top polynomial at r."""
    check_field(field)
    return letter_slope(field)


def step_number(field):
    """The step number."""
    check_field(field)
    return steps_of(field)


def discriminant_exponent(field):
    """The value of the discriminant of the field."""
    check_field(field)
    return field.plain_size * letter_slope(field)


def field_discriminant(field):
    """The determinant of the table of traces of all products of two t ** i r ** j, of any length."""
    check_field(field)
    sums, letters = trace_rows(field)
    members = letter_members(field)
    table = []
    for one in members:
        table.append([number_trace(field.low, sums, letters, times(field, one, other)) for other in members])
    return determinant(table)


def check_step_size(prime, step_size):
    """Refuse what is no prime, and what is no step size from 1 to 30."""
    check_prime(prime)
    check_between(step_size, 1, MOST_STEP)


def ore_numbers(prime, step_size):
    """The step numbers of fields with the step size, ascending."""
    check_step_size(prime, step_size)
    return steps_that_occur(prime, step_size)


def is_step_number(prime, step_size, value):
    """Whether the value is the step number of some field with the step size."""
    check_step_size(prime, step_size)
    return does_step_occur(prime, step_size, value)


def krasner_count(prime, plain_size, step_size, number):
    """How many fields over one plain part, in one closure, have the step size and the step number."""
    check_prime(prime)
    check_between(plain_size, 1, MOST_PLAIN)
    check_between(step_size, 1, MOST_STEP)
    if not does_step_occur(prime, step_size, number):
        raise InvalidNumber(number)
    return count_in_closure(prime, plain_size, step_size, number)


def count_share(prime, plain_size, step_size, number):
    """The ratio of this count and of q to the step number."""
    count = krasner_count(prime, plain_size, step_size, number)
    return lowest_terms(count, whole_power(prime, plain_size * number))


def closure_count(prime, degree):
    """How many full fields of the degree there are in one closure."""
    check_prime(prime)
    check_between(degree, 1, MOST_CLOSURE)
    counts = []
    for plain_size in divisors_of(degree):
        counts.extend(list(counts_by_step(prime, plain_size, degree // plain_size).values()))
    return sum(counts)


def like_number(field):
    """How many full fields in one closure are alike to a field."""
    return field.degree // lead_count(field, field)


def like_count(field):
    """How many full fields in one closure are alike to a field."""
    check_field(field)
    return like_number(field)


def is_field_tuple(value):
    """Whether the value is a tuple of at most 64 fields."""
    if not isinstance(value, tuple) or len(value) > MOST_TOGETHER:
        return False
    return all([isinstance(field, Field) for field in value])


def have_one_size(fields):
    """Whether all fields have one prime, one plain size and one step size."""
    sizes = [(field.prime, field.plain_size, field.step_size) for field in fields]
    return all([size == sizes[0] for size in sizes])


def share_sum(fields):
    """The sum of the shares of fields of one prime and of one pair of sizes."""
    if not is_field_tuple(fields):
        raise InvalidField("no tuple of at most 64 fields")
    if not have_one_size(fields):
        raise InvalidOperation("fields of two primes or sizes")
    total = (0, 1)
    for field in fields:
        bottom = lead_count(field, field) * whole_power(field.residues, steps_of(field))
        total = ratio_sum(total, (1, bottom))
    return total
