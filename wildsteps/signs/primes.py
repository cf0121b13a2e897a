"""Prime numbers up to a million, divisors of integers, and square roots modulo primes."""

from wildsteps.prime.whole import exponent_of, power_modulo


def is_prime_number(number):
    """Whether an integer from 2 on is a prime number."""
    divisor = 2
    while divisor * divisor <= number:
        if number % divisor == 0:
            return False
        divisor = divisor + 1 if divisor == 2 else divisor + 2
    return number >= 2


def prime_divisors(number):
    """The prime numbers that divide an integer other than 0, ascending."""
    found = []
    left = abs(number)
    divisor = 2
    while divisor * divisor <= left:
        if left % divisor == 0:
            found.append(divisor)
            while left % divisor == 0:
                left = left // divisor
        divisor = divisor + 1 if divisor == 2 else divisor + 2
    if left > 1:
        found.append(left)
    return found


def legendre(prime, number):
    """The square sign of an integer at an odd prime."""
    rest = power_modulo(number, (prime - 1) // 2, prime)
    return -1 if rest == prime - 1 else rest


def square_part(number, primes):
    """The greatest square root of a square that divides an integer, by its prime divisors."""
    root = 1
    for prime in primes:
        for _ in range(exponent_of(prime, number) // 2):
            root = root * prime
    return root


def least_other(prime):
    """The least integer that is no square modulo an odd prime."""
    number = 2
    while legendre(prime, number) != -1:
        number = number + 1
    return number


def doublings_to_one(number, prime):
    """How often a number is to be squared until it is 1 modulo a prime; its order is a power of 2."""
    count = 0
    square = number
    while square != 1:
        square = square * square % prime
        count = count + 1
    return count


def root_modulo(prime, number):
    """An integer whose square leaves what a square modulo a prime leaves."""
    rest = number % prime
    if prime == 2 or rest == 0:
        return rest
    count = exponent_of(2, prime - 1)
    odd = (prime - 1) >> count
    root = power_modulo(rest, (odd + 1) // 2, prime)
    left = power_modulo(rest, odd, prime)
    power = power_modulo(least_other(prime), odd, prime)
    # The square of the root is the number times what is left; both are led to it step by step.
    while left != 1:
        often = doublings_to_one(left, prime)
        for _ in range(count - often - 1):
            power = power * power % prime
        count = often
        root = root * power % prime
        power = power * power % prime
        left = left * power % prime
    return root
