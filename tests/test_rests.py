"""Stage 2: polynomials with integers, and modulo a prime."""

import unittest
from fractions import Fraction
from itertools import product
from math import prod

from tests.tools import BIG, NOTHING_LIKE_IT, PRIMES, WRONG_POLYNOMIALS, WRONG_PRIMES, WRONG_WHOLES, ErrorCase
from tests.tools import drawer
from wildsteps.errors import InvalidNumber, InvalidOperation, InvalidPolynomial, TooMany
from wildsteps.prime import rests
from wildsteps.prime.rests import derivative_of, discriminant, divided_polynomial, factors_modulo, has_double_root
from wildsteps.prime.rests import is_irreducible_modulo, least_low, polynomial_product, polynomial_rests
from wildsteps.prime.rests import polynomial_sum, polynomial_value, resultant, shifted_polynomial

POLYNOMIALS = (InvalidPolynomial, WRONG_POLYNOMIALS)
NUMBERS = (InvalidNumber, WRONG_WHOLES)
WHOLE = (InvalidNumber, WRONG_PRIMES)


def trim(numbers):
    numbers = list(numbers)
    while numbers and numbers[-1] == 0:
        numbers.pop()
    return tuple(numbers)


def add(one, other):
    most = max(len(one), len(other))
    one, other = one + (0,) * (most - len(one)), other + (0,) * (most - len(other))
    return trim([a + b for a, b in zip(one, other)])


def multiply(one, other):
    if not one or not other:
        return ()
    return trim([sum(one[i] * other[k - i] for i in range(len(one)) if 0 <= k - i < len(other))
                 for k in range(len(one) + len(other) - 1)])


def modulo(prime, polynomial):
    return trim([number % prime for number in polynomial])


def at(polynomial, number):
    return sum(c * number ** k for k, c in enumerate(polynomial))


def by_roots(last, roots):
    polynomial = (last,)
    for root in roots:
        polynomial = multiply(polynomial, (-root, 1))
    return polynomial


def drawn(draw, degree, size=20, last=None):
    head = draw.choice((1, -1)) * draw.randint(1, size) if last is None else last
    return tuple([draw.randint(-size, size) for _ in range(degree)]) + (head,)


def monic_ones(prime, degree):
    return [numbers + (1,) for numbers in product(range(prime), repeat=degree)]


def irreducible_ones(prime, most):
    """All monic polynomials that do not come apart, by striking out all products."""
    apart = set()
    for degree in range(2, most + 1):
        for low in range(1, degree // 2 + 1):
            for one in monic_ones(prime, low):
                for other in monic_ones(prime, degree - low):
                    apart.add(modulo(prime, multiply(one, other)))
    return [g for degree in range(1, most + 1) for g in monic_ones(prime, degree) if g not in apart]


class SumsTest(unittest.TestCase, ErrorCase):

    def test_example_of_the_document(self):
        told = [polynomial_sum((1, 2), (0, -2)), polynomial_product((1, 1), (-1, 1)),
                polynomial_value((2, 0, 1), -3), derivative_of((5, 4, 3)), shifted_polynomial((0, 0, 1), 3)]
        self.assertEqual(told, [(1,), (-1, 0, 1), 11, (4, 6), (9, 6, 1)])
        self.assertEqual(rests.MAX_DEGREE, 8)

    def test_sums_and_products(self):
        draw = drawer(1)
        told = [(), (1,), (-3,), (0, 1), (0, 0, 0, 0, -1)] + [drawn(draw, k % 5) for k in range(20)]
        for one in told:
            for other in told:
                self.assertEqual(polynomial_sum(one, other), add(one, other))
                self.assertEqual(polynomial_product(one, other), multiply(one, other))

    def test_values_and_derivatives(self):
        draw = drawer(2)
        for polynomial in [(), (7,)] + [drawn(draw, k, 10 ** k) for k in range(9)]:
            for number in (0, 1, -1, 17, -10 ** 20, BIG - 1):
                self.assertEqual(polynomial_value(polynomial, number), at(polynomial, number))
            self.assertEqual(derivative_of(polynomial), tuple(k * c for k, c in enumerate(polynomial) if k))

    def test_shifts(self):
        draw = drawer(3)
        for polynomial in [(), (7,)] + [drawn(draw, k) for k in range(9)]:
            for number in (0, 1, -1, 12, -1000):
                shifted = shifted_polynomial(polynomial, number)
                self.assertEqual(len(shifted), len(polynomial))
                for place in range(-5, 6):
                    self.assertEqual(at(shifted, place), at(polynomial, place + number))
                self.assertEqual(shifted_polynomial(shifted, -number), polynomial)

    def test_quotient_and_rest_fit(self):
        draw = drawer(4)
        for degree in range(-1, 9):
            for divisor in range(0, 9):
                one = drawn(draw, degree) if degree >= 0 else ()
                other = drawn(draw, divisor, last=1)
                quotient, rest = divided_polynomial(one, other)
                self.assertEqual(add(multiply(quotient, other), rest), one)
                self.assertLess(len(rest), len(other))
                self.assertEqual((quotient, rest), (trim(quotient), trim(rest)))
        self.assertEqual(divided_polynomial((3, 4), (1,)), ((3, 4), ()))

    def test_only_monic_ones_divide(self):
        for other in ((), (2,), (1, 2), (1, -1), (0, 0, 3)):
            self.assert_raises_just(InvalidOperation, divided_polynomial, (1, 2, 3), other)

    def test_limits_of_degrees(self):
        self.assertEqual(polynomial_product((0, 0, 0, 0, 1), (0, 0, 0, 0, 1)), (0,) * 8 + (1,))
        self.assert_too_many(8, polynomial_product, (0, 0, 0, 0, 1), (0, 0, 0, 0, 0, 1))
        self.assert_too_many(8, polynomial_product, (0,) * 8 + (1,), (0,) * 8 + (1,))
        self.assertEqual(polynomial_product((0,) * 8 + (1,), ()), ())
        self.assertEqual(polynomial_sum((1,) * 9, (-1,) * 9), ())

    def test_limits_of_lengths(self):
        half = 5 * 10 ** 59
        self.assertEqual(polynomial_sum((half,), (half - 1,)), (BIG - 1,))
        self.assert_too_many(60, polynomial_sum, (half,), (half,))
        self.assertEqual(polynomial_sum((-half, 1), (1 - half,)), (1 - BIG, 1))
        self.assert_too_many(60, polynomial_sum, (-half, 1), (-half,))
        self.assertEqual(polynomial_product((10 ** 30 - 1,), (10 ** 30,)), (BIG - 10 ** 30,))
        self.assert_too_many(60, polynomial_product, (10 ** 30,), (10 ** 30,))
        self.assertEqual(derivative_of((1, 0, half - 1)), (0, BIG - 2))
        self.assert_too_many(60, derivative_of, (1, 0, half))
        self.assertEqual(shifted_polynomial((0, 1), BIG - 1), (BIG - 1, 1))
        self.assert_too_many(60, shifted_polynomial, (1, 1), BIG - 1)
        self.assert_too_many(60, shifted_polynomial, (0, 0, 1), -10 ** 30)
        self.assertEqual(divided_polynomial((0, BIG - 1), (1, 1)), ((BIG - 1,), (1 - BIG,)))
        self.assert_too_many(60, divided_polynomial, (-1, BIG - 1), (1, 1))
        self.assert_too_many(60, divided_polynomial, (0, 1, BIG - 1), (-1, 1))

    def test_the_degree_comes_before_the_length(self):
        self.assert_too_many(8, polynomial_product, (0, 0, 0, 0, BIG - 1), (0, 0, 0, 0, 0, BIG - 1))
        self.assert_too_many(60, polynomial_product, (0, 0, 0, 0, BIG - 1), (0, 0, 0, 0, BIG - 1))

    def test_wrong_inputs(self):
        for function in (polynomial_sum, polynomial_product, divided_polynomial, resultant):
            self.check_parameters(function, ((1, 2), (3, 1)), (POLYNOMIALS, POLYNOMIALS))
        for function in (polynomial_value, shifted_polynomial):
            self.check_parameters(function, ((1, 2), 5), (POLYNOMIALS, NUMBERS))
        for function in (derivative_of, discriminant, has_double_root):
            self.check_parameters(function, ((1, 2),), (POLYNOMIALS,))


class ResultantsTest(unittest.TestCase, ErrorCase):

    def test_product_at_the_roots(self):
        draw = drawer(5)
        for _ in range(150):
            roots = [draw.randint(-9, 9) for _ in range(draw.randint(0, 8))]
            last = draw.choice((1, -1, 2, -7, 30))
            other = drawn(draw, draw.randint(0, 8))
            told = last ** (len(other) - 1) * prod(at(other, root) for root in roots)
            one = by_roots(last, roots)
            self.assertEqual(resultant(one, other), told)
            sign = (-1) ** (len(roots) * (len(other) - 1))
            self.assertEqual(resultant(other, one), sign * told)

    def test_products_are_multiplied(self):
        draw = drawer(6)
        for _ in range(60):
            one = drawn(draw, draw.randint(0, 8))
            two, three = drawn(draw, draw.randint(0, 4)), drawn(draw, draw.randint(0, 4))
            self.assertEqual(resultant(one, multiply(two, three)), resultant(one, two) * resultant(one, three))
            self.assertEqual(resultant(multiply(two, three), one), resultant(two, one) * resultant(three, one))

    def test_constants(self):
        self.assertEqual(resultant((5,), (7,)), 1)
        self.assertEqual(resultant((5,), (1, 2, 3)), 25)
        self.assertEqual(resultant((1, 2, 3), (-5,)), 25)
        self.assertEqual(resultant((1, 2, 3, 1), (-5,)), -125)

    def test_common_factors(self):
        draw = drawer(7)
        for _ in range(40):
            factor = drawn(draw, draw.randint(1, 4))
            one = multiply(factor, drawn(draw, draw.randint(0, 4)))
            other = multiply(factor, drawn(draw, draw.randint(0, 4)))
            self.assertEqual(resultant(one, other), 0)
        self.assertEqual(resultant((0, 1), (0, 0, 3)), 0)

    def test_any_size_and_zero(self):
        high = (BIG - 1,) * 9
        self.assertGreater(abs(resultant(high, (2 - BIG,) + (BIG - 1,) * 8)), BIG ** 8)
        self.assertGreater(polynomial_value(high, BIG - 1), BIG ** 8)
        self.assertGreater(abs(discriminant((1 - BIG, 3) + (BIG - 1,) * 7)), BIG ** 8)
        for args in (((), (1, 1)), ((1, 1), ()), ((), ()), ((), (3,))):
            self.assert_raises_just(InvalidOperation, resultant, *args)

    def test_a_divided_resultant_needs_no_common_factor(self):
        self.assertEqual(resultant((0, 1), (2, 1)), 2)
        self.assertEqual(resultant((1, 1, 1), (3, 1)), 7)

    def test_discriminants_of_roots(self):
        draw = drawer(8)
        for degree in range(1, 9):
            for last in (1, -1, 3, -10):
                roots = [draw.randint(-12, 12) for _ in range(degree)]
                told = prod((a - b) ** 2 for k, a in enumerate(roots) for b in roots[:k])
                polynomial = by_roots(last, roots)
                self.assertEqual(discriminant(polynomial), last ** (2 * degree - 2) * told)
                self.assertIs(has_double_root(polynomial), told == 0)

    def test_discriminants_without_roots(self):
        self.assertEqual(discriminant((3, 5, 2)), 25 - 24)
        self.assertEqual(discriminant((7, 4)), 1)
        self.assertEqual(discriminant((5, -3, 0, 1)), -4 * -27 - 27 * 25)
        self.assertEqual(discriminant((1, 0, 0, 0, 1)), 256)
        self.assertEqual(discriminant((-1, -1, 0, 0, 0, 1)), 5 ** 5 - 4 ** 4)

    def test_discriminants_of_products_and_shifts(self):
        draw = drawer(9)
        for _ in range(40):
            one, other = drawn(draw, draw.randint(1, 4), last=1), drawn(draw, draw.randint(1, 4), last=1)
            told = discriminant(one) * discriminant(other) * resultant(one, other) ** 2
            self.assertEqual(discriminant(multiply(one, other)), told)
            further = drawn(draw, draw.randint(1, 8))
            self.assertEqual(discriminant(shifted_polynomial(further, draw.randint(-9, 9))), discriminant(further))

    def test_double_roots(self):
        draw = drawer(10)
        for _ in range(30):
            factor, other = drawn(draw, draw.randint(1, 3)), drawn(draw, draw.randint(0, 2))
            self.assertIs(has_double_root(multiply(multiply(factor, factor), other)), True)
        self.assertIs(has_double_root((2, 0, 1)), False)
        for polynomial in ((), (1,), (-5,)):
            self.assert_raises_just(InvalidOperation, discriminant, polynomial)
            self.assert_raises_just(InvalidOperation, has_double_root, polynomial)


class FactorsTest(unittest.TestCase, ErrorCase):

    def test_rests(self):
        draw = drawer(11)
        for prime in PRIMES:
            for degree in range(9):
                polynomial = drawn(draw, degree, 10 ** 12)
                self.assertEqual(polynomial_rests(prime, polynomial), modulo(prime, polynomial))
            self.assertEqual(polynomial_rests(prime, ()), ())
            self.assertEqual(polynomial_rests(prime, (prime, -prime)), ())
            self.assertEqual(polynomial_rests(prime, (-1, 2 * prime)), (prime - 1,))

    def test_all_polynomials_of_low_degree(self):
        for prime, most in ((2, 6), (3, 4), (5, 3), (7, 2)):
            alone = irreducible_ones(prime, most)
            for degree in range(1, most + 1):
                for polynomial in monic_ones(prime, degree):
                    self.assertIs(is_irreducible_modulo(prime, polynomial), polynomial in alone)
                    self.check_factors(prime, polynomial, alone)

    def check_factors(self, prime, polynomial, alone=None):
        pairs = factors_modulo(prime, polynomial)
        whole = (modulo(prime, polynomial)[-1],)
        for factor, count in pairs:
            self.assertEqual(factor[-1], 1)
            self.assertGreaterEqual(count, 1)
            for _ in range(count):
                whole = modulo(prime, multiply(whole, factor))
            if alone is not None:
                self.assertIn(factor, alone)
        self.assertEqual(whole, modulo(prime, polynomial))
        keys = [(len(factor), factor) for factor, _ in pairs]
        self.assertEqual(keys, sorted(set(keys)))
        return pairs

    def test_drawn_products(self):
        draw = drawer(12)
        for prime, most in ((2, 5), (3, 4), (5, 3), (7, 3)):
            alone = irreducible_ones(prime, most)
            for _ in range(80):
                told, whole = {}, (draw.randint(1, prime - 1),)
                while True:
                    factor = draw.choice(alone)
                    if len(whole) + len(factor) > 10:
                        break
                    whole = multiply(whole, factor)
                    told[factor] = told.get(factor, 0) + 1
                polynomial = tuple(c % prime + prime * draw.randint(-10 ** 40, 10 ** 40) for c in whole)
                polynomial = trim(polynomial)
                pairs = self.check_factors(prime, polynomial)
                self.assertEqual(dict(pairs), told)
                single = list(told.values()) == [1]
                self.assertIs(is_irreducible_modulo(prime, polynomial), single)

    def test_last_numbers_that_the_prime_divides(self):
        self.assertEqual(factors_modulo(3, (2, 1, 0, 3)), (((2, 1), 1),))
        self.assertIs(is_irreducible_modulo(3, (2, 1, 0, 3)), True)
        self.assertEqual(factors_modulo(5, (2, 5, 5, 10)), ())
        self.assertEqual(factors_modulo(7, (0, 3)), (((0, 1), 1),))
        self.assertEqual(factors_modulo(2, (0, 0, 0, 1)), (((0, 1), 3),))

    def test_constants_and_zero(self):
        for prime in PRIMES:
            self.assertEqual(factors_modulo(prime, (prime + 1,)), ())
            self.assertIs(is_irreducible_modulo(prime, (-1,)), False)
            for polynomial in ((), (prime,), (0, prime, -2 * prime)):
                self.assert_raises_just(InvalidOperation, factors_modulo, prime, polynomial)
                self.assert_raises_just(InvalidOperation, is_irreducible_modulo, prime, polynomial)

    def test_discriminants_tell_of_factors(self):
        draw = drawer(13)
        for prime in PRIMES:
            squares = {a * a % prime for a in range(1, prime)}
            for _ in range(120):
                polynomial = drawn(draw, draw.randint(1, 8), last=1)
                pairs, number = factors_modulo(prime, polynomial), discriminant(polynomial)
                self.assertEqual(any(count > 1 for _, count in pairs), number % prime == 0)
                if number % prime:
                    even = (len(polynomial) - 1 - len(pairs)) % 2 == 0
                    self.assertEqual(even, number % 8 == 1 if prime == 2 else number % prime in squares)

    def test_product_of_all(self):
        for prime, most in ((2, 3), (3, 1), (5, 1), (7, 1)):
            for k in range(1, most + 1):
                whole = (1,)
                for factor in irreducible_ones(prime, k):
                    if k % (len(factor) - 1) == 0:
                        whole = modulo(prime, multiply(whole, factor))
                self.assertEqual(whole, (0, prime - 1) + (0,) * (prime ** k - 2) + (1,))

    def test_apart_modulo_each_prime(self):
        for prime in PRIMES:
            self.assertIs(is_irreducible_modulo(prime, (1, 0, 0, 0, 1)), False)

    def test_wrong_inputs(self):
        for function in (polynomial_rests, factors_modulo, is_irreducible_modulo):
            self.check_parameters(function, (5, (1, 2)), (WHOLE, POLYNOMIALS))


class LeastLowTest(unittest.TestCase, ErrorCase):

    def test_all_sizes(self):
        for prime, most in ((2, 6), (3, 3), (5, 2), (7, 2)):
            alone = irreducible_ones(prime, most)
            for size in range(1, most + 1):
                told = least_low(prime, size)
                self.assertEqual(told, min(g for g in alone if len(g) == size + 1))
            self.assertEqual(least_low(prime, 1), (0, 1))

    def test_limits(self):
        self.assertEqual(least_low(2, 6), (1, 0, 0, 0, 0, 1, 1))
        for prime, size in ((3, 4), (3, 6), (5, 3), (7, 3), (7, 6)):
            self.assert_too_many(64, least_low, prime, size)
        for prime in PRIMES:
            for size in (7, 8, BIG - 1):
                self.assert_too_many(6, least_low, prime, size)

    def test_wrong_inputs(self):
        wrong = NOTHING_LIKE_IT + (0, -1, -BIG, BIG, 10 ** 219, (2,), (2, 1))
        self.check_parameters(least_low, (2, 6), (WHOLE, (InvalidNumber, wrong)))


class NothingChangesTest(unittest.TestCase):

    def test_calls_are_equal_again(self):
        one, other = (1, 2, 3), (4, 0, 1)
        for function in (polynomial_sum, polynomial_product, divided_polynomial, resultant):
            self.assertEqual(function(one, other), function(one, other))
        self.assertEqual((one, other), ((1, 2, 3), (4, 0, 1)))
        self.assertEqual(Fraction(resultant((1, 2), (3, 4))), 2 * 3 - 4 * 1)
        self.assertTrue(issubclass(TooMany, OverflowError))


if __name__ == "__main__":
    unittest.main()
