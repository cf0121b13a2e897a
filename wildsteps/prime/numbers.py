"""Numbers seen from a prime: values, units, rests, digits, near roots and powers."""

from math import gcd

from wildsteps.checks import check_between, check_integer, check_number, check_polynomial
from wildsteps.checks import is_any_integer, is_any_number, is_between
from wildsteps.errors import InvalidNumber, InvalidOperation
from wildsteps.prime.polys import derived, evaluated
from wildsteps.prime.whole import digits_in_base, exponent_of, inverse_modulo, power_modulo
from wildsteps.prime.whole import whole_power, without_prime

PRIMES = (2, 3, 5, 7)
MAX_LEVEL = 66
MAX_EXPONENT = 12


def check_prime(prime):
    """Refuse what is no prime of the package."""
    if not is_any_integer(prime) or prime not in PRIMES:
        raise InvalidNumber(prime)


def check_level(level):
    """Refuse what is no level."""
    check_between(level, 0, MAX_LEVEL)


def top_and_bottom(number):
    """The number as a pair, an integer with the bottom 1."""
    if isinstance(number, tuple):
        return number
    return (number, 1)


def number_value(prime, number):
    """The value of a number, None for 0."""
    top, bottom = top_and_bottom(number)
    if top == 0:
        return None
    return exponent_of(prime, top) - exponent_of(prime, bottom)


def number_unit(prime, number):
    """The ratio of a number other than 0 without any power of the prime."""
    top, bottom = top_and_bottom(number)
    return (without_prime(prime, top), without_prime(prime, bottom))


def rest_modulo(number, modulus):
    """The rest of a number whose bottom has no common divisor with the modulus."""
    top, bottom = top_and_bottom(number)
    return top * inverse_modulo(bottom, modulus) % modulus


def check_whole_value(prime, number):
    """Refuse a number with a value below 0."""
    if top_and_bottom(number)[1] % prime == 0:
        raise InvalidOperation("a number with a value below 0 has no rest")


def value_of(prime, number):
    """The value of a number, None for 0."""
    check_prime(prime)
    check_number(number)
    return number_value(prime, number)


def unit_of(prime, number):
    """The ratio of the number and of the prime to the number's value."""
    check_prime(prime)
    check_number(number)
    if top_and_bottom(number)[0] == 0:
        raise InvalidOperation("0 has no unit")
    return number_unit(prime, number)


def rest_of(prime, number, level):
    """The one integer from 0 to p ** level - 1 that is near to the number to the level."""
    check_prime(prime)
    check_number(number)
    check_level(level)
    check_whole_value(prime, number)
    return rest_modulo(number, whole_power(prime, level))


def digits_of_number(prime, number, many):
    """The first digits of the number, the lowest one first."""
    check_prime(prime)
    check_number(number)
    check_level(many)
    check_whole_value(prime, number)
    return digits_in_base(prime, rest_modulo(number, whole_power(prime, many)), many)


def number_of_digits(prime, digits):
    """The integer with these digits, the lowest one first."""
    check_prime(prime)
    if not isinstance(digits, tuple) or len(digits) > MAX_LEVEL:
        raise InvalidOperation("digits are a tuple of at most 66 integers")
    if not all([is_between(digit, 0, prime - 1) for digit in digits]):
        raise InvalidOperation("digits are integers from 0 to p - 1")
    return evaluated(digits, prime)


def is_start_near(prime, polynomial, start):
    """Whether the integer is a near start of the polynomial."""
    slope = evaluated(derived(polynomial), start)
    if slope == 0:
        return False
    height = evaluated(polynomial, start)
    return height == 0 or exponent_of(prime, height) > 2 * exponent_of(prime, slope)


def is_near_start(prime, polynomial, value):
    """Whether the value is an integer near enough to just one root in Q_p."""
    check_prime(prime)
    check_polynomial(polynomial)
    return is_any_integer(value) and is_start_near(prime, polynomial, value)


def root_by_start(prime, polynomial, start, level):
    """An integer near, to the level, to the root that a near start tells."""
    derivative = derived(polynomial)
    depth = exponent_of(prime, evaluated(derivative, start))
    scale = whole_power(prime, depth)
    # Below this level an integer would no longer tell the one root.
    modulus = whole_power(prime, max(level, depth + 1))
    near = start % modulus
    height = evaluated(polynomial, near)
    while height % (modulus * scale) != 0:
        slope = evaluated(derivative, near) // scale
        near = (near - height // scale * inverse_modulo(slope, modulus)) % modulus
        height = evaluated(polynomial, near)
    return near


def near_integer_root(prime, polynomial, start, level):
    """The integer from 0 to p ** level - 1 that is near to the root of a near start."""
    check_prime(prime)
    check_polynomial(polynomial)
    check_integer(start)
    check_level(level)
    if not is_start_near(prime, polynomial, start):
        raise InvalidOperation("the start is not near enough to a root")
    return root_by_start(prime, polynomial, start, level) % whole_power(prime, level)


def check_exponent(exponent):
    """Refuse what is no exponent."""
    check_between(exponent, 1, MAX_EXPONENT)


def check_power(prime, number, exponent):
    """Refuse arguments for which no power paper exists."""
    check_prime(prime)
    check_number(number)
    check_exponent(exponent)
    if top_and_bottom(number)[0] == 0:
        raise InvalidOperation("0 has no power paper")


def power_level(prime, exponent):
    """The level from which on rests decide whether a unit is a power."""
    return 2 * exponent_of(prime, exponent) + 1


def base_of_power(prime, number, exponent, level):
    """The least integer from 0 on whose power is near to the number's unit, None if there is none."""
    modulus = whole_power(prime, level)
    rest = rest_modulo(number_unit(prime, number), modulus)
    for base in range(modulus):
        if power_modulo(base, exponent, modulus) == rest:
            return base
    return None


def scaled_unit(prime, unit, value):
    """The number with this value and this unit, an integer that the prime does not divide."""
    if value < 0:
        return (unit, whole_power(prime, -value))
    return unit * whole_power(prime, value)


def power_paper(prime, number, exponent):
    """A paper on whether the number is such a power of a number of Q_p."""
    check_power(prime, number, exponent)
    # The number itself is short; a unit from its rests, scaled, need not be.
    if exponent == 1:
        return ("root", number)
    value = number_value(prime, number)
    if value % exponent != 0:
        return ("value",)
    level = power_level(prime, exponent)
    base = base_of_power(prime, number, exponent, level)
    if base is None:
        return ("rests", level)
    return ("root", scaled_unit(prime, base, value // exponent))


def is_near_power(prime, number, exponent, root):
    """Whether the power of the root is near enough to the number to make it a power."""
    top, bottom = top_and_bottom(root)
    number_top, number_bottom = top_and_bottom(number)
    over = whole_power(top, exponent) * number_bottom
    under = whole_power(bottom, exponent) * number_top
    if over == under:
        return True
    value = exponent_of(prime, over - under) - exponent_of(prime, under)
    return value > 2 * exponent_of(prime, exponent)


def are_rests_bare(prime, number, exponent, level):
    """Whether no power of an integer is near to the number's unit to the level."""
    # Beyond this level nothing changes: what is near to it is a power.
    enough = min(level, power_level(prime, exponent))
    return base_of_power(prime, number, exponent, enough) is None


def is_power_paper(prime, number, exponent, value):
    """Whether the value is a correct power paper."""
    check_power(prime, number, exponent)
    if not isinstance(value, tuple) or len(value) not in (1, 2):
        return False
    word = value[0]
    if not isinstance(word, str):
        return False
    if len(value) == 1:
        return word == "value" and number_value(prime, number) % exponent != 0
    told = value[1]
    if word == "root":
        return is_any_number(told) and is_near_power(prime, number, exponent, told)
    if word == "rests":
        return is_between(told, 1, MAX_LEVEL) and are_rests_bare(prime, number, exponent, told)
    return False


def ones_count(prime, exponent):
    """How many roots of one there are in Q_p whose power is 1."""
    check_prime(prime)
    check_exponent(exponent)
    if prime == 2:
        return gcd(exponent, 2)
    return gcd(exponent, prime - 1)
