"""Places of numbers: their values, and the powers of a fixed base that their units are, modulo a power of the prime."""

from wildsteps.checks import check_between, is_short_number
from wildsteps.errors import InvalidNumber
from wildsteps.prime.numbers import MAX_LEVEL, top_and_bottom
from wildsteps.prime.whole import exponent_of, inverse_modulo, power_modulo, whole_power, without_prime


def least_level(prime):
    """The least level of a place."""
    return 3 if prime == 2 else 1


def check_place_level(prime, level):
    """Refuse what is no level of a place."""
    check_between(level, least_level(prime), MAX_LEVEL)


def check_number_not_zero(number):
    """Refuse what is no number other than 0 with integers of at most sixty digits."""
    if not is_short_number(number) or top_and_bottom(number)[0] == 0:
        raise InvalidNumber(number)


def level_of_powers(prime, exponent):
    """The least level at which units near to 1 are powers with the exponent, as far as places have levels."""
    return max(2 * exponent_of(prime, exponent) + 1, least_level(prime))


def base_of(prime):
    """The integer by whose powers units are told, for an odd prime."""
    return 3 if prime == 7 else 2


def orders_of(prime, level):
    """The orders of the coordinates behind the first one."""
    if prime == 2:
        return (2, whole_power(2, level - 2))
    return (whole_power(prime, level - 1) * (prime - 1),)


def unit_modulo(prime, top, bottom, modulus):
    """The rest of a ratio without the prime."""
    return without_prime(prime, top) * inverse_modulo(without_prime(prime, bottom), modulus) % modulus


def log_of_near(prime, unit, base, start, level):
    """The exponent with which a base, near to 1 to the level start and to no greater one, gives a unit near to 1.

    It is told modulo the power of the prime with the exponent level - start.
    """
    modulus = whole_power(prime, level)
    step = whole_power(prime, start)
    slope = power_modulo((base - 1) // step, prime - 2, prime)
    left, power, share = unit, inverse_modulo(base, modulus), 1
    total = 0
    for _ in range(level - start):
        digit = (left - 1) // step * slope % prime
        left = left * power_modulo(power, digit, modulus) % modulus
        total = total + digit * share
        power = power_modulo(power, prime, modulus)
        step = step * prime
        share = share * prime
    return total


def log_modulo(prime, rest):
    """The exponent from 0 on with which the base gives a rest, modulo an odd prime."""
    power = 1
    exponent = 0
    while power != rest:
        power = power * base_of(prime) % prime
        exponent = exponent + 1
    return exponent


def unit_log(prime, unit, level):
    """The exponent with which the base gives a unit, modulo a power of an odd prime."""
    modulus = whole_power(prime, level)
    base = power_modulo(base_of(prime), prime - 1, modulus)
    near = log_of_near(prime, power_modulo(unit, prime - 1, modulus), base, 1, level)
    first = log_modulo(prime, unit % prime)
    # A power of the prime leaves 1 modulo p - 1.
    return near + whole_power(prime, level - 1) * ((first - near) % (prime - 1))


def unit_place(prime, unit, level):
    """The coordinates of a unit behind the first one."""
    if prime != 2:
        return (unit_log(prime, unit, level),)
    sign = unit // 2 % 2
    positive = (0 - unit) % whole_power(2, level) if sign == 1 else unit
    return (sign, log_of_near(2, positive, 5, 2, level))


def place_of(prime, number, level):
    """The place of a number other than 0, with integers of any length."""
    top, bottom = top_and_bottom(number)
    value = exponent_of(prime, top) - exponent_of(prime, bottom)
    unit = unit_modulo(prime, top, bottom, whole_power(prime, level))
    return (value,) + unit_place(prime, unit, level)
