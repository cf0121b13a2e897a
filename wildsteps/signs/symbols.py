"""Signs of two integers at a place, and integers without squares that stand for numbers."""

from wildsteps.prime.numbers import top_and_bottom
from wildsteps.prime.whole import exponent_of, without_prime
from wildsteps.signs.primes import legendre, prime_divisors


def whole_class(number):
    """The integer that is a number times a square: its top times its bottom."""
    top, bottom = top_and_bottom(number)
    return top * bottom


def is_square_class(place, number):
    """Whether an integer other than 0 is a square at a place."""
    if place == 0:
        return number > 0
    if exponent_of(place, number) % 2 == 1:
        return False
    unit = without_prime(place, number)
    return unit % 8 == 1 if place == 2 else legendre(place, unit) == 1


def sign_at_two(one, other):
    """The sign of two integers at 2."""
    unit, further = without_prime(2, one), without_prime(2, other)
    total = (unit - 1) // 2 * ((further - 1) // 2)
    total = total + exponent_of(2, one) * ((further * further - 1) // 8)
    total = total + exponent_of(2, other) * ((unit * unit - 1) // 8)
    return 1 if total % 2 == 0 else -1


def sign_at_odd(prime, one, other):
    """The sign of two integers at an odd prime."""
    value, further_value = exponent_of(prime, one), exponent_of(prime, other)
    sign = 1
    if value % 2 == 1 and further_value % 2 == 1 and prime % 4 == 3:
        sign = -1
    if further_value % 2 == 1:
        sign = sign * legendre(prime, without_prime(prime, one))
    if value % 2 == 1:
        sign = sign * legendre(prime, without_prime(prime, other))
    return sign


def sign_of(place, one, other):
    """The sign of two integers at a place."""
    if place == 0:
        return -1 if one < 0 and other < 0 else 1
    if place == 2:
        return sign_at_two(one, other)
    return sign_at_odd(place, one, other)


def divisors_of_number(number):
    """The prime numbers that divide the top or the bottom of a number."""
    top, bottom = top_and_bottom(number)
    return prime_divisors(top) + prime_divisors(bottom)


def places_of(primes):
    """The places 0 and 2, and the primes, ascending."""
    return sorted(set([0, 2] + primes))
