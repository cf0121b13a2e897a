"""Polynomials modulo a prime: their rests, common factors and factors that do not come apart."""

from wildsteps.prime.polys import added, multiplied, trimmed
from wildsteps.prime.whole import digits_in_base, inverse_modulo, whole_power


def rests_modulo(prime, polynomial):
    """The polynomial with the rests of its numbers, without zeros at its end."""
    return trimmed([number % prime for number in polynomial])


def monic_modulo(prime, polynomial):
    """A polynomial other than 0, divided by its last number."""
    share = inverse_modulo(polynomial[-1], prime)
    return tuple([number * share % prime for number in polynomial])


def divided_modulo(prime, one, other):
    """The quotient and the rest by a monic polynomial."""
    degree = len(other) - 1
    rest = list(one)
    quotient = [0] * max(0, len(one) - degree)
    for place in range(len(one) - degree - 1, -1, -1):
        head = rest[place + degree] % prime
        quotient[place] = head
        if head != 0:
            for further in range(degree + 1):
                rest[place + further] -= head * other[further]
    return rests_modulo(prime, quotient), rests_modulo(prime, rest)


def common_modulo(prime, one, other):
    """The greatest monic polynomial that divides both; one of both is not 0."""
    high, low = one, other
    while len(low) > 0:
        divisor = monic_modulo(prime, low)
        rest = divided_modulo(prime, high, divisor)[1]
        high, low = divisor, rest
    return monic_modulo(prime, high)


def prime_power_modulo(prime, polynomial, other):
    """The polynomial to the power p, as a rest by a monic one."""
    result = (1,)
    for _ in range(prime):
        result = divided_modulo(prime, multiplied(result, polynomial), other)[1]
    return result


def monic_by_index(prime, degree, index):
    """The monic polynomial with the index, from 0 on, in the order of tuples."""
    # The number at x ** 0 is compared first, so it is the highest digit of the index.
    return digits_in_base(prime, index, degree)[::-1] + (1,)


def factors_of_degree(prime, polynomial, degree):
    """The factors of a product of unlike monic ones of one degree, in the order of tuples."""
    found = []
    left = polynomial
    index = 0
    while len(left) - 1 > degree:
        factor = monic_by_index(prime, degree, index)
        index = index + 1
        quotient, rest = divided_modulo(prime, left, factor)
        if len(rest) == 0:
            found.append(factor)
            left = quotient
    if len(left) - 1 == degree:
        found.append(left)
    return found


def taken_out(prime, polynomial, factor):
    """The polynomial without the factor, and how often it was there."""
    left = polynomial
    count = 0
    quotient, rest = divided_modulo(prime, left, factor)
    while len(rest) == 0:
        left = quotient
        count = count + 1
        quotient, rest = divided_modulo(prime, left, factor)
    return left, count


def monic_factors(prime, polynomial):
    """The pairs (factor, how often) of a polynomial other than 0, by degree and tuple."""
    left = monic_modulo(prime, polynomial)
    found = []
    degree = 1
    power = (0, 1)
    while 2 * degree <= len(left) - 1:
        power = prime_power_modulo(prime, divided_modulo(prime, power, left)[1], left)
        # x ** (p ** degree) - x has just the factors whose degrees divide this one, once each.
        common = common_modulo(prime, left, rests_modulo(prime, added(power, (0, -1))))
        for factor in factors_of_degree(prime, common, degree):
            left, count = taken_out(prime, left, factor)
            found.append((factor, count))
        degree = degree + 1
    if len(left) > 1:
        found.append((left, 1))
    return tuple(found)


def comes_apart_no_more(prime, polynomial):
    """Whether a polynomial other than 0 has one factor alone, just once."""
    factors = monic_factors(prime, polynomial)
    return len(factors) == 1 and factors[0][1] == 1


def least_irreducible(prime, degree):
    """The first monic polynomial of the degree that does not come apart, in the order of tuples."""
    for index in range(whole_power(prime, degree)):
        polynomial = monic_by_index(prime, degree, index)
        if comes_apart_no_more(prime, polynomial):
            return polynomial
    return None
