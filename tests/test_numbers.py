"""Stage 1: numbers seen from a prime."""

import unittest
from fractions import Fraction
from math import gcd

from tests.tools import BIG, NOTHING_LIKE_IT, PRIMES, WRONG_LEVELS, WRONG_NUMBERS, WRONG_POLYNOMIALS, WRONG_PRIMES
from tests.tools import WRONG_WHOLES, ErrorCase, at_least, deep, drawer, exponent, fraction_of, ratio_of
from wildsteps.errors import InvalidNumber, InvalidOperation, InvalidPolynomial
from wildsteps.prime import numbers
from wildsteps.prime.numbers import digits_of_number, is_near_start, is_power_paper, near_integer_root
from wildsteps.prime.numbers import number_of_digits, ones_count, power_paper, rest_of, unit_of, value_of

WRONG_EXPONENTS = NOTHING_LIKE_IT + (0, -1, 13, BIG, (2,), (2, 1))


def drawn_numbers(seed, many):
    draw = drawer(seed)
    told = [1, -1, 2, 3, 5, 7, -6, 10, 35, 48, -49, 210, (1, 2), (-1, 3), (8, 3), (-5, 7), (1, 210), (210, 1), (9, 4)]
    told += [BIG - 1, 1 - BIG, 2 ** 199, -3 ** 125, 5 ** 85, 7 ** 70, -5 ** 85, -2 ** 199, -7 ** 70]
    told += [(1, 2 ** 199), (-1, 3 ** 125), (BIG - 1, BIG - 2), (2 - BIG, 7 ** 70)]
    for _ in range(many):
        size = 10 ** draw.choice((1, 2, 5, 20))
        top = draw.randint(-size, size) * draw.choice(PRIMES) ** draw.randint(0, 6)
        bottom = draw.randint(1, size) * draw.choice(PRIMES) ** draw.choice((0, 0, 0, 1, 4))
        if top:
            told.append(draw.choice((top, ratio_of(Fraction(top, bottom)))))
    return [number for number in told if fraction_of(number)]


def has_root_by_count(prime, number, n):
    """Whether a number is an n-th power, by powers of rests to a level that is surely enough."""
    value = exponent(prime, fraction_of(number))
    if value % n:
        return False
    unit = fraction_of(number) / Fraction(prime) ** value
    modulus = prime ** {2: 9, 3: 6, 5: 4, 7: 3}[prime]
    rest = unit.numerator * pow(unit.denominator, -1, modulus) % modulus
    return any(pow(a, n, modulus) == rest for a in range(modulus) if a % prime)


class ValuesTest(unittest.TestCase, ErrorCase):

    def test_example_of_the_document(self):
        told = [value_of(2, (8, 3)), value_of(3, 0), unit_of(2, (8, 3)), rest_of(3, (1, 2), 2),
                digits_of_number(2, -1, 4), number_of_digits(3, (2, 1))]
        self.assertEqual(told, [3, None, (1, 3), 5, (1, 1, 1, 1), 5])

    def test_constants(self):
        self.assertEqual(numbers.PRIMES, (2, 3, 5, 7))
        self.assertEqual(numbers.MAX_LEVEL, 66)
        self.assertEqual(numbers.MAX_EXPONENT, 12)

    def test_value_and_unit(self):
        for prime in PRIMES:
            for number in drawn_numbers(1, 60):
                value = value_of(prime, number)
                self.assertEqual(value, exponent(prime, fraction_of(number)))
                unit = unit_of(prime, number)
                self.assertEqual(unit, ratio_of(fraction_of(number) / Fraction(prime) ** value))
                self.assertIs(type(unit), tuple)

    def test_zero(self):
        for prime in PRIMES:
            for zero in (0, (0, 1)):
                self.assertIsNone(value_of(prime, zero))
                self.assert_raises_just(InvalidOperation, unit_of, prime, zero)
                self.assertEqual(rest_of(prime, zero, 66), 0)
                self.assertEqual(digits_of_number(prime, zero, 3), (0, 0, 0))
                self.assert_raises_just(InvalidOperation, power_paper, prime, zero, 2)
                self.assert_raises_just(InvalidOperation, is_power_paper, prime, zero, 2, ("value",))

    def test_rests(self):
        for prime in PRIMES:
            for number in drawn_numbers(2, 60):
                fraction = fraction_of(number)
                for level in (0, 1, 2, 7, 65, 66):
                    if fraction.denominator % prime == 0:
                        self.assert_raises_just(InvalidOperation, rest_of, prime, number, level)
                        self.assert_raises_just(InvalidOperation, digits_of_number, prime, number, level)
                        continue
                    rest = rest_of(prime, number, level)
                    self.assertTrue(0 <= rest < prime ** level)
                    self.assertTrue(at_least(exponent(prime, fraction - rest), level))
                    digits = digits_of_number(prime, number, level)
                    self.assertEqual(len(digits), level)
                    self.assertTrue(all(0 <= digit < prime for digit in digits))
                    self.assertEqual(sum(digit * prime ** k for k, digit in enumerate(digits)), rest)
                    self.assertEqual(number_of_digits(prime, digits), rest)

    def test_rest_is_the_only_one(self):
        for number in (5, -7, (1, 3), (-9, 5)):
            near = [r for r in range(2 ** 5) if at_least(exponent(2, fraction_of(number) - r), 5)]
            self.assertEqual(near, [rest_of(2, number, 5)])

    def test_digits_from_some_place_on(self):
        for prime in PRIMES:
            for number in (0, 1, 12, 10 ** 15, 7 ** 17):
                self.assertEqual(set(digits_of_number(prime, number, 66)[60:]), {0})
                if number:
                    self.assertEqual(set(digits_of_number(prime, -number, 66)[60:]), {prime - 1})

    def test_digits_of_ratios_come_again(self):
        for prime in PRIMES:
            for bottom in (3, 7, 11, 13):
                if bottom == prime:
                    continue
                period = next(k for k in range(1, 20) if pow(prime, k, bottom) == 1)
                for top in (1, -1, 5, -40):
                    if gcd(top, bottom) == 1:
                        row = digits_of_number(prime, (top, bottom), 66)
                        self.assertEqual(row[10:50], row[10 + period:50 + period])

    def test_digits_of_numbers_edges(self):
        self.assertEqual(digits_of_number(5, 17, 0), ())
        self.assertEqual(number_of_digits(5, ()), 0)
        self.assertEqual(number_of_digits(7, (6,) * 66), 7 ** 66 - 1)
        self.assertEqual(digits_of_number(7, -1, 66), (6,) * 66)
        wrong = [(1,) * 67, (2,), (-1,), (True,), (0, False), (None,), ("1",), ((1,),), [1, 0], 3, (0, 1, 2), (BIG,)]
        for digits in NOTHING_LIKE_IT + tuple(wrong):
            self.assert_raises_just(InvalidOperation, number_of_digits, 2, digits)

    def test_sums_have_greater_values_at_times(self):
        self.assertEqual([value_of(2, 1), value_of(2, 1 + 1)], [0, 1])

    def test_wrong_inputs(self):
        primes, told = (InvalidNumber, WRONG_PRIMES), (InvalidNumber, WRONG_NUMBERS)
        levels = (InvalidNumber, WRONG_LEVELS)
        self.check_parameters(value_of, (2, 12), (primes, told))
        self.check_parameters(unit_of, (3, (9, 4)), (primes, told))
        self.check_parameters(rest_of, (5, (1, 4), 66), (primes, told, levels))
        self.check_parameters(digits_of_number, (7, -3, 66), (primes, told, levels))
        self.check_parameters(number_of_digits, (2, (1, 0)), (primes, (InvalidOperation, NOTHING_LIKE_IT[:3])))

    def test_then_comes_behind_all_others(self):
        self.assert_refused(InvalidNumber, 67, rest_of, (2, (1, 2), 67))
        self.assert_refused(InvalidNumber, -1, digits_of_number, (2, (1, 2), -1))
        self.assert_raises_just(InvalidOperation, rest_of, 2, (1, 2), 0)


class NearRootsTest(unittest.TestCase, ErrorCase):

    def polynomials(self):
        draw = drawer(3)
        told = [(), (3,), (0, 1), (-2, 1), (0, 0, 1), (-17, 0, 1), (2, 0, 1), (-1, 0, 0, 1), (12, -7, 1), (-BIG + 1, 1)]
        told += [tuple([draw.randint(-30, 30) for _ in range(k)]) + (draw.randint(1, 9),) for k in range(1, 9)]
        return told

    def slope(self, polynomial, start):
        return sum(k * number * start ** (k - 1) for k, number in enumerate(polynomial) if k)

    def value(self, polynomial, start):
        return sum(number * start ** k for k, number in enumerate(polynomial))

    def test_starts_by_their_values(self):
        for prime in PRIMES:
            for polynomial in self.polynomials():
                for start in (*range(-30, 31), 10 ** 59, 10 ** 219 + 3):
                    slope = self.slope(polynomial, start)
                    height = exponent(prime, self.value(polynomial, start))
                    near = slope != 0 and at_least(height, 2 * exponent(prime, slope) + 1)
                    self.assertIs(is_near_start(prime, polynomial, start), near)
                    if abs(start) < BIG and not near:
                        self.assert_raises_just(InvalidOperation, near_integer_root, prime, polynomial, start, 5)

    def test_roots_are_near_to_each_level(self):
        found = 0
        for prime in PRIMES:
            for polynomial in self.polynomials():
                for start in range(-30, 31):
                    if not is_near_start(prime, polynomial, start):
                        continue
                    found += 1
                    depth = exponent(prime, self.slope(polynomial, start))
                    last = near_integer_root(prime, polynomial, start, 66)
                    self.assertTrue(at_least(exponent(prime, self.value(polynomial, last)), 66 + depth))
                    self.assertTrue(at_least(exponent(prime, last - start), depth + 1))
                    for level in (0, 1, 2, 3, 5, 17, 64, 65, 66):
                        root = near_integer_root(prime, polynomial, start, level)
                        self.assertEqual(root, last % prime ** level)
        self.assertGreater(found, 300)

    def test_deep_starts(self):
        scale = 2 ** 190
        polynomial = (-scale * scale // 2 ** 190 * 3, scale)
        self.assertEqual(near_integer_root(2, polynomial, 3, 66), 3)
        self.assertEqual(near_integer_root(2, (-9, 0, 1), 3, 10), 3)
        self.assertEqual(near_integer_root(2, (-9, 0, 1), -3, 10), 2 ** 10 - 3)
        self.assertEqual(near_integer_root(2, (-9, 0, 1), 5, 10), 2 ** 10 - 3)
        self.assertEqual(near_integer_root(3, (-10 ** 59, 1), 10 ** 59, 66), 10 ** 59 % 3 ** 66)
        self.assertEqual(near_integer_root(5, (1, 0, 1), 2, 3), 57)
        for prime, k in ((2, 4), (2, 7), (3, 5), (5, 4), (7, 3)):
            # The roots of this square are 2 p ** k times those of 1 + 8 p.
            square = (2 * prime ** k) ** 2 * (1 + 8 * prime)
            polynomial, start = (-square, 0, 1), 2 * prime ** k
            last = near_integer_root(prime, polynomial, start, 66)
            depth = exponent(prime, 2 * start)
            self.assertTrue(at_least(exponent(prime, last ** 2 - square), 66 + depth))
            for level in range(67):
                self.assertEqual(near_integer_root(prime, polynomial, start, level), last % prime ** level)
        # The level 0 tells nothing, also if the root is far from 0.
        self.assertEqual(near_integer_root(5, (1, 0, 1), 2, 0), 0)

    def test_judge_takes_all_values(self):
        self.check_judge(is_near_start, (5, (1, 0, 1)), ((2, 1), (2,), 0, 1, 4, -1, 10 ** 219))
        self.assertIs(is_near_start(5, (1, 0, 1), 10 ** 219 + 2), True)
        self.assertIs(is_near_start(3, (-1, 1), True), False)

    def test_wrong_inputs(self):
        primes, polynomials = (InvalidNumber, WRONG_PRIMES), (InvalidPolynomial, WRONG_POLYNOMIALS)
        self.check_parameters(is_near_start, (5, (1, 0, 1), 2), (primes, polynomials, None))
        self.check_parameters(near_integer_root, (5, (1, 0, 1), 2, 3),
                              (primes, polynomials, (InvalidNumber, WRONG_WHOLES), (InvalidNumber, WRONG_LEVELS)))
        self.assert_refused(InvalidNumber, 67, near_integer_root, (5, (1, 0, 1), 1, 67))
        self.assert_raises_just(InvalidOperation, near_integer_root, 5, (), 2, 3)
        self.assert_raises_just(InvalidOperation, near_integer_root, 5, (5,), 2, 3)


class PowersTest(unittest.TestCase, ErrorCase):

    def is_short(self, number):
        return all(abs(part) < BIG for part in (number if isinstance(number, tuple) else (number,)))

    def check_paper(self, prime, number, n):
        paper = power_paper(prime, number, n)
        self.assertIs(is_power_paper(prime, number, n, paper), True)
        value = exponent(prime, fraction_of(number))
        self.assertEqual(paper[0] == "root", has_root_by_count(prime, number, n), (prime, number, n, paper))
        if paper[0] == "root":
            self.assertTrue(self.is_short(paper[1]))
            near = exponent(prime, fraction_of(paper[1]) ** n / fraction_of(number) - 1)
            self.assertTrue(at_least(near, 2 * exponent(prime, n) + 1))
        elif paper[0] == "value":
            self.assertTrue(len(paper) == 1 and value % n)
        else:
            self.assertEqual(paper[0], "rests")
            unit = fraction_of(number) / Fraction(prime) ** value
            modulus = prime ** paper[1]
            rest = unit.numerator * pow(unit.denominator, -1, modulus) % modulus
            self.assertTrue(all(pow(a, n, modulus) != rest for a in range(modulus)))

    def test_papers(self):
        for prime in PRIMES:
            for n in range(1, 13):
                for number in drawn_numbers(prime * 100 + n, 8):
                    self.check_paper(prime, number, n)

    def test_powers_have_roots(self):
        draw = drawer(9)
        for prime in PRIMES:
            for n in range(1, 13):
                for _ in range(4):
                    most = 10 ** (59 // n)
                    base = Fraction(draw.randint(1, most), draw.randint(1, most)) * draw.choice((1, -1))
                    number = ratio_of(base ** n)
                    self.check_paper(prime, number, n)
                    self.assertEqual(power_paper(prime, number, n)[0], "root")
                    self.assertIs(is_power_paper(prime, number, n, ("root", ratio_of(base))), True)
                    self.assertIs(is_power_paper(prime, number, n, ("value",)), False)
                    for c in (1, 2, 3, 66):
                        self.assertIs(is_power_paper(prime, number, n, ("rests", c)), False)

    def test_every_correct_paper_is_accepted(self):
        self.assertIs(is_power_paper(2, 17, 2, ("root", 1)), True)
        self.assertIs(is_power_paper(3, 10, 3, ("root", 4)), True)
        self.assertIs(is_power_paper(3, 10, 3, ("root", (1, 7))), True)
        self.assertIs(is_power_paper(3, 10, 3, ("root", 1)), False)
        self.assertIs(is_power_paper(3, 10, 3, ("root", (1, 4))), False)
        self.assertIs(is_power_paper(2, 17, 2, ("root", (2, 3))), False)
        self.assertIs(is_power_paper(2, 17, 2, ("root", (3, 2))), False)
        self.assertIs(is_power_paper(2, 17, 2, ("root", 7)), True)
        self.assertIs(is_power_paper(2, 17, 2, ("root", (1, 7))), True)
        self.assertIs(is_power_paper(2, 17, 2, ("root", (7, 1))), True)
        self.assertIs(is_power_paper(2, 17, 2, ("root", 1 + 2 ** 600)), True)
        self.assertIs(is_power_paper(2, 17, 2, ("root", (1 + 2 ** 600, 1 + 2 ** 650))), True)
        self.assertIs(is_power_paper(2, 17, 2, ("root", 0)), False)
        self.assertIs(is_power_paper(2, 17, 2, ("root", (0, 1))), False)
        # A number that fails by its value can fail by its rests, too.
        self.assertIs(is_power_paper(2, 2 * 5, 2, ("value",)), True)
        self.assertIs(is_power_paper(2, 2 * 5, 2, ("rests", 3)), True)
        self.assertIs(is_power_paper(2, 2 * 17, 2, ("rests", 3)), False)
        self.assertIs(is_power_paper(2, 2 * 17, 2, ("root", 1)), False)

    def test_roots_by_their_words(self):
        draw = drawer(10)
        found = {True: 0, False: 0}
        for prime in PRIMES:
            for n in (1, 2, 3, 4, 5, 6, 7, 8, 9, 10, 12):
                for _ in range(40):
                    root = Fraction(draw.randint(1, 60), draw.randint(1, 9)) * Fraction(prime) ** draw.randint(-3, 3)
                    root = root * draw.choice((1, -1))
                    change = draw.choice((1, prime, prime ** 2, prime ** 3, prime ** 5, prime ** 7)) * draw.randint(-3, 3)
                    number = root ** n * (1 + change)
                    if not number or max(abs(number.numerator), number.denominator) >= BIG:
                        continue
                    near = at_least(exponent(prime, root ** n / number - 1), 2 * exponent(prime, n) + 1)
                    told = is_power_paper(prime, ratio_of(number), n, ("root", ratio_of(root)))
                    self.assertIs(told, near)
                    found[told] += 1
        self.assertGreater(min(found.values()), 300)
        self.assertIs(is_power_paper(2, 12, 2, ("root", 2)), False)
        self.assertIs(is_power_paper(2, (3, 4), 2, ("root", (1, 2))), False)

    def test_rests_need_enough_levels(self):
        for c in range(1, 67):
            self.assertIs(is_power_paper(2, 5, 2, ("rests", c)), c >= 3)
            self.assertIs(is_power_paper(2, 3, 2, ("rests", c)), c >= 2)
            self.assertIs(is_power_paper(7, 3, 2, ("rests", c)), True)
            self.assertIs(is_power_paper(3, 4, 3, ("rests", c)), c >= 2)
            self.assertIs(is_power_paper(3, 10, 9, ("rests", c)), c >= 3)

    def test_exponent_one_keeps_the_number(self):
        for prime in PRIMES:
            for number in (-5 ** 85, 5 ** 85, 7 ** 70, BIG - 1, (1 - BIG, BIG - 2), (1, 5 ** 85), (-1, 7 ** 70)):
                self.check_paper(prime, number, 1)

    def test_judge_takes_all_values(self):
        wrong = (("root",), ("root", True), ("root", (2, 2)), ("root", (1, 0)), ("root", (1, -1)), ("root", [1, 1]),
                 ("root", 1, 1), ["root", 1], ("root", None), ("root", "1"), ("rests",), ("rests", 0), ("rests", 67),
                 ("rests", True), ("rests", 3, 3), ["rests", 3], ("rests", (3, 1)), ("rests", 10 ** 219), ("value",),
                 ["value"], "value", ("value", 1), ("value", None), (), ("roots", 1), (b"root", 1), ((), 1),
                 ({}, 1), (["root"], 1), ("root", (True, 1)), ("root", (1, True)), ("root", {}), deep("value", 7))
        self.check_judge(is_power_paper, (2, 17, 2), wrong)
        self.check_judge(is_power_paper, (2, 5, 2), wrong[:10] + wrong[11:15] + wrong[16:] + (("rests", 2), ("root", 1)))
        self.assertIs(is_power_paper(2, 8, 2, ("value",)), True)
        self.check_judge(is_power_paper, (2, 2, 2), (["value"], ("value", 1), ("value", ()), ("value", True), "value"))

    def test_wrong_inputs(self):
        rules = ((InvalidNumber, WRONG_PRIMES), (InvalidNumber, WRONG_NUMBERS), (InvalidNumber, WRONG_EXPONENTS))
        self.check_parameters(power_paper, (2, 17, 12), rules)
        self.check_parameters(is_power_paper, (2, (17, 9), 12, ("value",)), rules + (None,))
        self.check_parameters(ones_count, (7, 12), (rules[0], rules[2]))
        self.assert_refused(InvalidNumber, 13, power_paper, (2, 0, 13))
        self.assert_refused(InvalidNumber, 0, is_power_paper, (2, 0, 0, None))

    def test_near_to_a_square_is_not_enough(self):
        self.assertEqual((3 * 3 - 5) % 4, 0)
        self.assertNotEqual(power_paper(2, 5, 2)[0], "root")

    def test_ones_count(self):
        for prime in PRIMES:
            for n in range(1, 13):
                depth = exponent(prime, n)
                modulus = prime ** (2 * depth + 1)
                near = [a for a in range(modulus) if pow(a, n, modulus) == 1 % modulus]
                self.assertEqual(ones_count(prime, n), len({a % prime ** (depth + 1) for a in near}))
                told = gcd(n, 2) if prime == 2 else gcd(n, prime - 1)
                self.assertEqual(ones_count(prime, n), told)


if __name__ == "__main__":
    unittest.main()
