"""Complete tuples of fields with given sizes, and how many kinds there are."""

from wildsteps.checks import check_between
from wildsteps.errors import InvalidField, InvalidOperation, TooMany
from wildsteps.fields.fields import MAX_RESIDUES, Field, check_field
from wildsteps.fields.tops import tame_field, tame_kinds
from wildsteps.prime.numbers import check_prime
from wildsteps.prime.whole import whole_power
from wildsteps.roots.leads import has_lead
from wildsteps.steps.counts import counts_by_step, divisors_of, steps_that_occur
from wildsteps.steps.exponents import is_field_tuple, like_number, steps_of
from wildsteps.steps.tops import field_by_index

MOST_LISTED = 4
MOST_SIZE = 6


def check_sizes(prime, plain_size, step_size):
    """Refuse what is no prime, no two sizes, and sizes that are too great together."""
    check_prime(prime)
    check_between(plain_size, 1, MOST_SIZE)
    check_between(step_size, 1, MOST_SIZE)
    if plain_size * step_size > MOST_LISTED:
        raise TooMany(MOST_LISTED)


def check_listed(prime, plain_size, step_size):
    """Refuse also sizes for which no field is told."""
    check_sizes(prime, plain_size, step_size)
    if whole_power(prime, plain_size) > MAX_RESIDUES:
        raise TooMany(MAX_RESIDUES)


def is_of_one_kind(one, other):
    """Whether two fields of any primes and sizes are alike."""
    if one.prime != other.prime or one.plain_size != other.plain_size or one.step_size != other.step_size:
        return False
    # Alike fields have one step number, which is told faster than a lead.
    return steps_of(one) == steps_of(other) and has_lead(one, other)


def place_of_kind(field, fields):
    """The index of the first one of the fields that is alike to a field, None if there is none."""
    for index, other in enumerate(fields):
        if is_of_one_kind(field, other):
            return index
    return None


def fields_with_steps(plain, step_size, number, count):
    """Unlike fields with a step number: all of them, the count being that of the fields in one closure."""
    found = []
    left = count
    index = 0
    while left > 0:
        field = field_by_index(plain, step_size, number, index)
        index = index + 1
        if place_of_kind(field, found) is None:
            found.append(field)
            left = left - like_number(field)
    return found


def listed_fields(prime, plain_size, step_size):
    """A complete tuple."""
    if step_size % prime != 0:
        kinds = tame_kinds(prime, plain_size, step_size)
        return tuple([tame_field(prime, plain_size, step_size, kind) for kind in kinds])
    plain = Field.plain(prime, plain_size)
    found = []
    for number, count in counts_by_step(prime, plain_size, step_size).items():
        found.extend(fields_with_steps(plain, step_size, number, count))
    return tuple(found)


def fields_of(prime, plain_size, step_size):
    """A complete tuple of fields with these sizes."""
    check_listed(prime, plain_size, step_size)
    return listed_fields(prime, plain_size, step_size)


def have_sizes(prime, plain_size, step_size, value):
    """Whether the value is a tuple of fields with these sizes."""
    if not isinstance(value, tuple) or not all([isinstance(field, Field) for field in value]):
        return False
    sizes = (prime, plain_size, step_size)
    return all([(field.prime, field.plain_size, field.step_size) == sizes for field in value])


def fields_by_step(fields):
    """The fields by their step numbers."""
    groups = {}
    for field in fields:
        groups.setdefault(steps_of(field), []).append(field)
    return groups


def are_unlike(fields):
    """Whether no two of the fields are alike."""
    return all([place_of_kind(field, fields[:index]) is None for index, field in enumerate(fields)])


def is_full_group(fields, count):
    """Whether unlike fields of one step number are as many in one closure as there are."""
    # There are at most as many kinds as fields in one closure.
    if len(fields) > count:
        return False
    return sum([like_number(field) for field in fields]) == count and are_unlike(fields)


def are_all_fields(prime, plain_size, step_size, value):
    """Whether the value is a complete tuple, in any order."""
    check_listed(prime, plain_size, step_size)
    if not have_sizes(prime, plain_size, step_size, value):
        return False
    groups = fields_by_step(value)
    counts = counts_by_step(prime, plain_size, step_size)
    return all([is_full_group(groups.get(number, []), count) for number, count in counts.items()])


def kind_counts(prime, plain_size, step_size):
    """How many kinds there are with each step number."""
    if step_size % prime != 0 and whole_power(prime, plain_size) > MAX_RESIDUES:
        return {0: 1}
    counts = {number: 0 for number in steps_that_occur(prime, step_size)}
    for field in listed_fields(prime, plain_size, step_size):
        counts[steps_of(field)] += 1
    return counts


def kinds_number(prime, plain_size, step_size):
    """How many kinds there are with these sizes."""
    check_sizes(prime, plain_size, step_size)
    return sum(kind_counts(prime, plain_size, step_size).values())


def kinds_by_step(prime, plain_size, step_size):
    """How many kinds there are with these sizes, by step number."""
    check_sizes(prime, plain_size, step_size)
    return kind_counts(prime, plain_size, step_size)


def kinds_of_degree(prime, degree):
    """How many kinds there are of one degree."""
    check_prime(prime)
    check_between(degree, 1, MOST_LISTED)
    return sum([kinds_number(prime, size, degree // size) for size in divisors_of(degree)])


def kind_index(field, fields):
    """The index of the one of unlike fields that is alike to a field, None if there is none."""
    check_field(field)
    if not is_field_tuple(fields):
        raise InvalidField("no tuple of at most 64 fields")
    if not are_unlike(fields):
        raise InvalidOperation("two of the fields are alike")
    return place_of_kind(field, fields)
