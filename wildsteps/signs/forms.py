"""Solutions of a x ** 2 + b y ** 2 = z ** 2 in integers, where the sign is 1 at all places."""

from math import gcd

from wildsteps.prime.whole import inverse_modulo
from wildsteps.signs.primes import prime_divisors, root_modulo, square_part


def least_root(number, modulus, primes):
    """The integer nearest to 0 whose square leaves what the number leaves, for a product of different primes."""
    roots = [0]
    product = 1
    for prime in primes:
        root = root_modulo(prime, number)
        share = inverse_modulo(product, prime)
        both = [root] if root == 0 or prime == 2 else [root, prime - root]
        roots = [old + product * ((new - old) * share % prime) for old in roots for new in both]
        product = product * prime
    return min([min(root, modulus - root) for root in roots])


def without_square(number):
    """The pair of an integer without squares and of the integer whose square it was divided by."""
    root = square_part(number, prime_divisors(number))
    return number // (root * root), root


def divided(solution):
    """The solution without a common divisor."""
    x, y, z = solution
    divisor = gcd(gcd(x, y), z)
    return (x // divisor, y // divisor, z // divisor)


def solved(one, other):
    """A solution for two integers without squares."""
    if one == 1:
        return (1, 0, 1)
    if other == 1:
        return (0, 1, 1)
    if one == 0 - other:
        return (1, 1, 0)
    if abs(one) > abs(other):
        y, x, z = solved(other, one)
        return (x, y, z)
    root = least_root(one, abs(other), prime_divisors(other))
    # The product of the other integer and of this quotient is the norm of a number with the root of the first one.
    further, share = without_square((root * root - one) // other)
    x, y, z = solved(one, further)
    return divided((z + root * x, further * share * y, root * z + one * x))


def form_solution(one, other):
    """A solution for two integers, told to have one."""
    first, share = without_square(one)
    second, further = without_square(other)
    x, y, z = solved(first, second)
    return divided((x * further, y * share, z * share * further))
