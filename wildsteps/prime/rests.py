"""Polynomials with integers, and modulo a prime."""

from wildsteps.checks import FIRST_LONG, check_integer, check_lengths, check_polynomial, is_any_integer
from wildsteps.errors import InvalidNumber, InvalidOperation, TooMany
from wildsteps.prime.determinants import discriminant_number, resultant_number
from wildsteps.prime.modulo import comes_apart_no_more, least_irreducible, monic_factors, rests_modulo
from wildsteps.prime.numbers import check_prime
from wildsteps.prime.polys import added, derived, divided, evaluated, moved, multiplied
from wildsteps.prime.whole import whole_power

MAX_DEGREE = 8
MOST_SIZE = 6
MOST_RESTS = 64


def told_polynomial(polynomial):
    """A result as it is, refused if it is too great."""
    if len(polynomial) > MAX_DEGREE + 1:
        raise TooMany(MAX_DEGREE)
    check_lengths(polynomial)
    return polynomial


def polynomial_sum(one, other):
    """The sum of two polynomials."""
    check_polynomial(one)
    check_polynomial(other)
    return told_polynomial(added(one, other))


def polynomial_product(one, other):
    """The product of two polynomials."""
    check_polynomial(one)
    check_polynomial(other)
    return told_polynomial(multiplied(one, other))


def polynomial_value(polynomial, number):
    """The value at an integer, of any length."""
    check_polynomial(polynomial)
    check_integer(number)
    return evaluated(polynomial, number)


def derivative_of(polynomial):
    """The derivative."""
    check_polynomial(polynomial)
    return told_polynomial(derived(polynomial))


def shifted_polynomial(polynomial, number):
    """The polynomial at x + number."""
    check_polynomial(polynomial)
    check_integer(number)
    return told_polynomial(moved(polynomial, number))


def divided_polynomial(one, other):
    """The pair of the quotient and the rest by a monic polynomial."""
    check_polynomial(one)
    check_polynomial(other)
    if len(other) == 0 or other[-1] != 1:
        raise InvalidOperation("only a monic polynomial divides")
    quotient, rest = divided(one, other)
    return told_polynomial(quotient), told_polynomial(rest)


def resultant(one, other):
    """The resultant of two polynomials other than 0, of any length."""
    check_polynomial(one)
    check_polynomial(other)
    if len(one) == 0 or len(other) == 0:
        raise InvalidOperation("the polynomial 0 has no resultant")
    return resultant_number(one, other)


def check_degree(polynomial):
    """Refuse a polynomial without roots to speak of."""
    if len(polynomial) < 2:
        raise InvalidOperation("the degree must be at least 1")


def discriminant(polynomial):
    """The discriminant, of any length."""
    check_polynomial(polynomial)
    check_degree(polynomial)
    return discriminant_number(polynomial, derived(polynomial))


def has_double_root(polynomial):
    """Whether some polynomial of a degree above 0, with fractions, divides this one twice."""
    return discriminant(polynomial) == 0


def polynomial_rests(prime, polynomial):
    """The polynomial modulo the prime."""
    check_prime(prime)
    check_polynomial(polynomial)
    return rests_modulo(prime, polynomial)


def rests_other_than_zero(prime, polynomial):
    """The checked polynomial modulo the prime, refused if it is 0 there."""
    rests = polynomial_rests(prime, polynomial)
    if len(rests) == 0:
        raise InvalidOperation("the prime divides all numbers")
    return rests


def factors_modulo(prime, polynomial):
    """The pairs (factor, how often) modulo the prime, by degree and tuple."""
    return monic_factors(prime, rests_other_than_zero(prime, polynomial))


def is_irreducible_modulo(prime, polynomial):
    """Whether there is just one factor modulo the prime, just once."""
    return comes_apart_no_more(prime, rests_other_than_zero(prime, polynomial))


def least_low(prime, size):
    """The first monic polynomial of the degree that does not come apart modulo the prime."""
    check_prime(prime)
    if not is_any_integer(size) or not 1 <= size < FIRST_LONG:
        raise InvalidNumber(size)
    if size > MOST_SIZE:
        raise TooMany(MOST_SIZE)
    if whole_power(prime, size) > MOST_RESTS:
        raise TooMany(MOST_RESTS)
    return least_irreducible(prime, size)
