"""Top polynomials of one field, and fields whose step size the prime does not divide."""

from math import gcd

from wildsteps.checks import check_between, check_lengths, is_between
from wildsteps.errors import InvalidNumber, InvalidOperation, TooMany
from wildsteps.fields.fields import MAX_RESIDUES, Field, check_field, check_member
from wildsteps.fields.members import entries_of, low_product, low_sum, value_in, whole_low
from wildsteps.fields.near import digit_row
from wildsteps.fields.residues import first_maker, residue_log, residue_of, residue_power, residue_root
from wildsteps.fields.tables import plain_characteristic
from wildsteps.prime.numbers import check_level, check_prime
from wildsteps.prime.whole import whole_power

MOST_TAME = 6
MOST_KIND = 62


def plain_polynomial(field, member):
    """The polynomial of a member over the plain part, with integers of any length."""
    check_field(field)
    check_member(field, member)
    return plain_characteristic(field, member)


def check_steps_by(field, member):
    """Refuse members of another value than 1."""
    if value_in(field, member) != 1:
        raise InvalidOperation("the value of the member must be 1")


def field_by(field, member):
    """The field whose top polynomial is the polynomial of a member of value 1."""
    check_field(field)
    check_member(field, member)
    check_steps_by(field, member)
    top = plain_characteristic(field, member)
    check_lengths(entries_of(top))
    return Field(field.prime, field.low, top)


def digits_by(field, member, further, many):
    """The first digits of a member by the powers of another one of value 1."""
    check_field(field)
    check_member(field, member)
    check_member(field, further)
    check_level(many)
    check_steps_by(field, member)
    return digit_row(field, further, member, many)


def led_residue(field, digit, further):
    """The digit of another field, of the same prime and plain size, to which a digit is led."""
    root = residue_root(further, field.low)
    result = whole_low(further.plain_size, 0)
    for entry in digit[::-1]:
        result = low_sum(low_product(further.low, result, root), whole_low(further.plain_size, entry))
    return residue_of(further, result)


def least_led(prime, number, modulus):
    """The least one of the rests of a number times powers of the prime."""
    rest = number % modulus
    least = rest
    further = rest * prime % modulus
    while further != rest:
        least = min(least, further)
        further = further * prime % modulus
    return least


def tame_divisor(prime, plain_size, step_size):
    """The greatest common divisor of the step size and of q - 1."""
    return gcd(step_size, whole_power(prime, plain_size) - 1)


def tame_kind(field):
    """The tame kind of a field whose step size the prime does not divide."""
    check_field(field)
    if field.step_size % field.prime == 0:
        raise InvalidOperation("the prime divides the step size")
    prime, size = field.prime, field.plain_size
    plain = Field.plain(prime, size)
    digit = residue_of(field, tuple([-entry // prime for entry in field.top[0]]))
    log = residue_log(plain, led_residue(field, digit, plain))
    return least_led(prime, log, tame_divisor(prime, size, field.step_size))


def check_tame_numbers(prime, plain_size, step_size):
    """Refuse what is no prime, and no sizes of a field that could be tame."""
    check_prime(prime)
    check_between(plain_size, 1, MOST_TAME)
    if not is_between(step_size, 1, MOST_TAME) or step_size % prime == 0:
        raise InvalidNumber(step_size)


def check_tame_sizes(prime, plain_size, step_size):
    """Refuse sizes for which there is no field."""
    if plain_size * step_size > MOST_TAME:
        raise TooMany(MOST_TAME)
    if whole_power(prime, plain_size) > MAX_RESIDUES:
        raise TooMany(MAX_RESIDUES)


def tame_kinds(prime, plain_size, step_size):
    """All tame kinds of fields with these sizes."""
    check_tame_numbers(prime, plain_size, step_size)
    check_tame_sizes(prime, plain_size, step_size)
    divisor = tame_divisor(prime, plain_size, step_size)
    return tuple([kind for kind in range(divisor) if least_led(prime, kind, divisor) == kind])


def tame_field(prime, plain_size, step_size, kind):
    """The field with the top polynomial x ** e - u p, u being a power of the least maker."""
    check_tame_numbers(prime, plain_size, step_size)
    check_between(kind, 0, MOST_KIND)
    check_tame_sizes(prime, plain_size, step_size)
    plain = Field.plain(prime, plain_size)
    if kind >= plain.residues - 1:
        raise InvalidOperation("the kind must be below q - 1")
    digit = residue_power(plain, first_maker(plain), kind)
    first = tuple([-prime * entry for entry in digit])
    empty = whole_low(plain_size, 0)
    return Field(prime, plain.low, (first,) + (empty,) * (step_size - 1) + (whole_low(plain_size, 1),))
