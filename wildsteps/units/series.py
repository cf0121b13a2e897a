"""Sums of powers over factorials, and over the integers from 1 on: exponentials and logarithms."""

from wildsteps.fields.members import minus, nearest, plain_depth, plus, rests_to, times, times_whole, value_in, whole
from wildsteps.fields.near import near_product
from wildsteps.prime.whole import exponent_of, inverse_modulo, whole_power

# Beyond this place no term of a logarithm has a value below 66: its value is at least the place,
# less the step size times the exponent of the prime in the place.
LAST_PLACE = 100


def does_converge(field, value):
    """Whether exponentials of members of this value are told, None being endless."""
    return value is None or value * (field.prime - 1) > field.step_size


def divided_to(member, divisor, modulus):
    """The member divided by an integer that divides it, each integer a rest."""
    return rests_to([[entry // divisor for entry in row] for row in member], modulus)


def last_term(field, value, level):
    """A place behind which no term of the exponential has a value below the level."""
    # The place k has at least the value (k gain + e) / (p - 1).
    gain = value * (field.prime - 1) - field.step_size
    return max(0, (level * (field.prime - 1) - field.step_size) // gain + 1)


def exponential_near(field, member, level):
    """A member near, to the level, to the exponential of a member for which it is told."""
    value = value_in(field, member)
    if value is None:
        return nearest(field, whole(field, 1), level)
    last = last_term(field, value, level)
    factorial_lost = sum([exponent_of(field.prime, place) for place in range(1, last + 1)])
    divisor = whole_power(field.prime, factorial_lost)
    left = whole_power(field.prime, plain_depth(field, level))
    modulus = divisor * left
    # All terms are taken times the last factorial, so that no fraction comes up.
    near = rests_to(member, modulus)
    total = whole(field, 1)
    factor = 1
    for place in range(last, 0, -1):
        factor = factor * place
        total = rests_to(plus(times(field, total, near), whole(field, factor)), modulus)
    share = inverse_modulo(factor // divisor, left)
    return nearest(field, times_whole(divided_to(total, divisor, left), share), level)


def logarithm_places(field, value, level):
    """The places at which a term of the logarithm has a value below the level."""
    prime, step_size = field.prime, field.step_size
    places = range(1, LAST_PLACE)
    return [place for place in places if place * value - step_size * exponent_of(prime, place) < level]


def logarithm_near(field, unit, level):
    """A member near, to the level, to the logarithm of a unit for which it is told."""
    base = minus(unit, whole(field, 1))
    value = value_in(field, base)
    places = [] if value is None else logarithm_places(field, value, level)
    if len(places) == 0:
        return nearest(field, whole(field, 0), level)
    lost = max([exponent_of(field.prime, place) for place in places])
    divisor = whole_power(field.prime, lost)
    left = whole_power(field.prime, plain_depth(field, level))
    modulus = divisor * left
    near = rests_to(base, modulus)
    total, power = whole(field, 0), whole(field, 1)
    for place in range(1, places[-1] + 1):
        power = near_product(field, power, near, modulus)
        shared = whole_power(field.prime, exponent_of(field.prime, place))
        share = divisor // shared * inverse_modulo(place // shared, modulus)
        total = rests_to(plus(total, times_whole(power, share if place & 1 else -share)), modulus)
    return nearest(field, divided_to(total, divisor, left), level)
