"""Powers, exponents, inverses and quotients of integers."""

from math import gcd


def whole_power(base, exponent):
    """The integer base to an exponent from 0 on."""
    result = 1
    square = base
    left = exponent
    while left > 0:
        if left & 1:
            result = result * square
        left = left >> 1
        if left:
            square = square * square
    return result


def power_modulo(base, exponent, modulus):
    """The rest of the power, from 0 to the modulus less 1."""
    result = 1 % modulus
    square = base % modulus
    left = exponent
    while left > 0:
        if left & 1:
            result = result * square % modulus
        square = square * square % modulus
        left = left >> 1
    return result


def inverse_modulo(number, modulus):
    """The integer from 0 on whose product with the number leaves 1; both have no common divisor."""
    high, low = modulus, number % modulus
    high_share, low_share = 0, 1
    while low > 0:
        times = high // low
        high, low = low, high - times * low
        high_share, low_share = low_share, high_share - times * low_share
    return high_share % modulus


def exponent_of(prime, number):
    """The exponent of the prime in an integer other than 0."""
    count = 0
    left = number
    while left % prime == 0:
        left = left // prime
        count = count + 1
    return count


def without_prime(prime, number):
    """An integer other than 0, divided by the prime as often as can be."""
    left = number
    while left % prime == 0:
        left = left // prime
    return left


def digits_in_base(base, number, many):
    """The last digits of an integer from 0 on, the lowest one first."""
    digits = []
    left = number
    for _ in range(many):
        digits.append(left % base)
        left = left // base
    return tuple(digits)


def lowest_terms(top, bottom):
    """The ratio of two integers, the lower one above 0."""
    divisor = gcd(top, bottom)
    return (top // divisor, bottom // divisor)
