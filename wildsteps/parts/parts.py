"""Parts of a polynomial with integers: the fields that its roots make over the numbers of one prime."""

from wildsteps.checks import is_short_polynomial
from wildsteps.errors import InvalidPolynomial, Refused, TooMany
from wildsteps.fields.fields import MAX_RESIDUES, Field, has_member_form
from wildsteps.fields.tables import whole_characteristic
from wildsteps.parts.making import made_part
from wildsteps.parts.orders import greatest_order
from wildsteps.parts.pieces import piece_sizes, pieces_of
from wildsteps.prime.determinants import discriminant_number
from wildsteps.prime.numbers import check_prime
from wildsteps.prime.polys import derived, multiplied
from wildsteps.prime.whole import exponent_of, whole_power

MAX_PARTED = 6
MAX_CLOSE = 30


def check_monic(polynomial):
    """Refuse what is no monic polynomial with integers of a degree from 1 to 6."""
    if not is_short_polynomial(polynomial) or not 2 <= len(polynomial) <= MAX_PARTED + 1 or polynomial[-1] != 1:
        raise InvalidPolynomial("no monic polynomial with integers of a degree from 1 to 6")


def closeness(prime, polynomial):
    """The value of the discriminant of a monic polynomial, None if it is 0."""
    number = discriminant_number(polynomial, derived(polynomial))
    if number == 0:
        return None
    return exponent_of(prime, number)


def close_level(prime, polynomial):
    """The value of the discriminant, refused if it is endless, or too great."""
    check_prime(prime)
    check_monic(polynomial)
    value = closeness(prime, polynomial)
    if value is None:
        raise Refused(("double",))
    if value > MAX_CLOSE:
        raise TooMany(MAX_CLOSE)
    return value


def near_bound(prime, polynomial):
    """The level to which a polynomial is to be near to have the same fields."""
    return 2 * close_level(prime, polynomial) + 1


def order_of(prime, polynomial, value):
    """The greatest ring with a root of the polynomial, whose discriminant has the value."""
    # Each of at most value // 2 enlargements of the ring takes two levels away.
    modulus = whole_power(prime, 3 * value + 3)
    return greatest_order(prime, tuple([number % modulus for number in polynomial[:-1]]) + (1,), modulus)


def parts_of(prime, polynomial):
    """Parts of the polynomial."""
    value = close_level(prime, polynomial)
    order = order_of(prime, polynomial, value)
    for _, plain_size in piece_sizes(order):
        if whole_power(prime, plain_size) > MAX_RESIDUES:
            raise TooMany(MAX_RESIDUES)
    return tuple([made_part(piece, 2 * value + 1) for piece in pieces_of(order)])


def is_part(prime, value):
    """Whether the value is a pair of a field of the prime and of a member of it."""
    if not isinstance(value, tuple) or len(value) != 2:
        return False
    field, member = value
    return isinstance(field, Field) and field.prime == prime and has_member_form(field, member)


def are_parts(prime, polynomial, value):
    """Whether the value is parts of the polynomial."""
    modulus = whole_power(prime, near_bound(prime, polynomial))
    if not isinstance(value, tuple) or not all([is_part(prime, part) for part in value]):
        return False
    if sum([part[0].degree for part in value]) != len(polynomial) - 1:
        return False
    product = (1,)
    for field, member in value:
        product = multiplied(product, whole_characteristic(field, member))
    return not any([(number - less) % modulus for number, less in zip(product, polynomial)])


def part_sizes(prime, polynomial):
    """The pairs (step size, plain size) of the fields of all factors, ascending but for equal ones."""
    value = close_level(prime, polynomial)
    return tuple(sorted(piece_sizes(order_of(prime, polynomial, value))))


def is_unsplit(prime, polynomial):
    """Whether the polynomial does not come apart."""
    return len(part_sizes(prime, polynomial)) == 1
