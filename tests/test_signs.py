"""Stage 18: signs of two numbers, and all primes at once."""

import unittest
from itertools import combinations, product
from math import gcd, prod

from tests.tools import BIG, NOTHING_LIKE_IT, PRIMES, WRONG_NUMBERS, ErrorCase, drawer, fraction_of, ratio_of
from wildsteps.errors import InvalidNumber, InvalidOperation
from wildsteps.fields.fields import Field
from wildsteps.norms.norms import norm_member
from wildsteps.parts.parts import parts_of
from wildsteps.signs import signs
from wildsteps.signs.signs import are_places_by_signs, is_solved_form, is_square_at, places_by_signs, sign_at
from wildsteps.signs.signs import sign_places, solved_form, square_sign

PLACES = (0, 2, 3, 5, 7, 11, 13, 17, 19, 23, 29, 31)
WRONG_PLACES = NOTHING_LIKE_IT + (1, -1, -2, 4, 9, 15, 999981, 1000000, 1000003, BIG, (2,), (2, 1), 10 ** 219)
PLACE = (InvalidNumber, WRONG_PLACES)
WRONG_SIGNED = WRONG_NUMBERS + (0, (0, 1), 1000001, -1000001, (1000001, 2), (1, 1000001), (-1000001, 7), (3, 0))
SIGNED = (InvalidNumber, WRONG_SIGNED)


def value_and_unit(prime, number):
    number, k = fraction_of(number), 0
    while number.numerator % prime == 0:
        number, k = number / prime, k + 1
    while number.denominator % prime == 0:
        number, k = number * prime, k - 1
    return k, number


def sign_by_solutions(prime, a, b):
    """For integers that the square of the prime does not divide: whether there is a solution modulo a power."""
    modulus = 32 if prime == 2 else prime ** 3
    squares = {z * z % modulus for z in range(modulus)}
    odd_squares = {z * z % modulus for z in range(modulus) if z % prime}
    for x in range(modulus):
        for y in range(modulus):
            rest = (a * x * x + b * y * y) % modulus
            if rest in (squares if x % prime or y % prime else odd_squares):
                return 1
    return -1


def square_sign_by_trying(prime, number):
    if number % prime == 0:
        return 0
    return 1 if any(x * x % prime == number % prime for x in range(1, prime)) else -1


def sign_by_rule(place, a, b):
    if place == 0:
        return -1 if fraction_of(a) < 0 and fraction_of(b) < 0 else 1
    (k, u), (m, w) = value_and_unit(place, a), value_and_unit(place, b)
    u, w = u.numerator * u.denominator, w.numerator * w.denominator
    if place == 2:
        return (-1) ** (((u - 1) // 2 * ((w - 1) // 2) + k * ((w * w - 1) // 8) + m * ((u * u - 1) // 8)) % 2)
    sign = (-1) ** (k * m * (place - 1) // 2 % 2)
    if m % 2:
        sign *= square_sign_by_trying(place, u)
    if k % 2:
        sign *= square_sign_by_trying(place, w)
    return sign


def primes_of(number):
    number, found, d = abs(number), [], 2
    while d * d <= number:
        while number % d == 0:
            found.append(d)
            number //= d
        d += 1
    return found + [number] if number > 1 else found


def all_places(*numbers):
    found = {0, 2}
    for number in numbers:
        told = fraction_of(number)
        found |= set(primes_of(told.numerator)) | set(primes_of(told.denominator))
    return tuple(sorted(found))


def drawn(draw, most=10 ** 6, ratios=True):
    top = draw.choice((-1, 1)) * draw.randint(1, 10 ** draw.randint(1, 6))
    bottom = draw.randint(1, most) if ratios and draw.random() < 0.4 else 1
    common = gcd(top, bottom)
    return top // common if bottom == common else (top // common, bottom // common)


def are_places_by_rule(one, places, value):
    told = prod(-1 if place == 0 else place for place in value)
    return places == tuple(p for p in all_places(one, told, *[q for q in places if q]) if sign_by_rule(p, one, told) == -1)


class SignsTest(unittest.TestCase, ErrorCase):

    def test_constants_and_examples(self):
        self.assertEqual((signs.MOST_PLACE, signs.MOST_SIGNED), (10 ** 6, 10 ** 6))
        self.assertEqual(
            [sign_at(2, -1, 3), sign_at(0, -1, -1), sign_places(-1, -1), sign_places(2, 3), square_sign(7, 3),
             is_square_at(7, 2), is_square_at(2, 17), sign_at(3, (1, 3), -1)],
            [-1, -1, (0, 2), (2, 3), -1, True, True, -1])

    def test_square_signs(self):
        draw = drawer(191)
        for prime in (3, 5, 7, 11, 13, 101, 997):
            for number in [0, 1, -1, prime, -prime, 2 * prime + 1] + [draw.randint(-BIG + 1, BIG - 1) for _ in range(20)]:
                self.assertEqual(square_sign(prime, number), square_sign_by_trying(prime, number))
        for prime in (999983, 999979):
            for number in (2, 3, 5, 7, 999982):
                self.assertEqual(square_sign(prime, number * number), 1)
                self.assertEqual(square_sign(prime, number), 1 if pow(number, (prime - 1) // 2, prime) == 1 else -1)

    def test_squares(self):
        draw = drawer(192)
        for place in PLACES:
            for _ in range(25):
                number = drawn(draw)
                if place == 0:
                    wanted = fraction_of(number) > 0
                else:
                    k, unit = value_and_unit(place, number)
                    modulus = 8 if place == 2 else place
                    rest = unit.numerator * pow(unit.denominator, -1, modulus) % modulus
                    wanted = k % 2 == 0 and any(x * x % modulus == rest for x in range(1, modulus, 2 if place == 2 else 1))
                self.assertIs(is_square_at(place, number), wanted)
                root = draw.randint(1, 999)
                self.assertIs(is_square_at(place, root * root), True)
                self.assertIs(is_square_at(place, ratio_of(fraction_of(root * root) / 49)), True)
        self.assertEqual([is_square_at(0, x) for x in (2, -4, (1, 7), (-1, 7))], [True, False, True, False])

    def test_signs_by_solutions(self):
        for prime, numbers in ((2, (-6, -5, -3, -2, -1, 2, 3, 5, 6, 7, 10)), (3, (-6, -3, -2, -1, 2, 3, 5, 6)),
                               (5, (-5, -2, 2, 3, 5, 10)), (7, (-7, -1, 3, 7))):
            for a in numbers:
                for b in numbers:
                    self.assertEqual(sign_at(prime, a, b), sign_by_solutions(prime, a, b), (prime, a, b))

    def test_signs_by_the_rule(self):
        draw = drawer(193)
        for place in PLACES + (101, 499):
            for _ in range(40):
                a, b = drawn(draw), drawn(draw)
                if place and draw.random() < 0.7:
                    a, b = (ratio_of(fraction_of(draw.randint(1, 99)) * fraction_of(place) ** draw.choice((-1, 0, 1)))
                            for _ in range(2))
                self.assertEqual(sign_at(place, a, b), sign_by_rule(place, a, b))
        self.assertEqual(sign_at(999983, 999983, 5), square_sign(999983, 5))
        self.assertEqual(sign_at(999983, 999983, 999983), square_sign(999983, -1))

    def test_rules_of_signs(self):
        draw = drawer(194)
        for place in PLACES:
            for _ in range(20):
                a, b, c = (drawn(draw, 900, True) for _ in range(3))
                if max(abs(x) for n in (a, b, c) for x in (n if isinstance(n, tuple) else (n,))) > 900:
                    a, b, c = (draw.randint(-900, -1) for _ in range(3))
                both = ratio_of(fraction_of(b) * fraction_of(c))
                self.assertEqual(sign_at(place, a, b), sign_at(place, b, a))
                self.assertEqual(sign_at(place, a, both), sign_at(place, a, b) * sign_at(place, a, c))
                self.assertEqual(sign_at(place, a, ratio_of(-fraction_of(a))), 1)
                if a != 1:
                    self.assertEqual(sign_at(place, a, ratio_of(1 - fraction_of(a))), 1)
                square = ratio_of(fraction_of(b) * 49)
                self.assertEqual(sign_at(place, a, square), sign_at(place, a, b))
                if is_square_at(place, a):
                    self.assertEqual({sign_at(place, a, x) for x in range(1, 40)}, {1})
        # The sign of a and a is not always 1.
        self.assertEqual(sign_at(2, -1, -1), -1)

    def test_no_square_has_some_sign(self):
        for place in PLACES:
            for a in (-1, 2, -2, 3, 5, 6, 7, -7, 10):
                told = {sign_at(place, a, b) for b in range(-60, 60) if b}
                self.assertIs(told == {1}, is_square_at(place, a))

    def test_signs_and_norms(self):
        for prime in PRIMES:
            for a in (-1, 2, 3, 5, -3, 6, 7, prime, -prime, 2 * prime):
                if is_square_at(prime, a):
                    continue
                field = parts_of(prime, (-a, 0, 1))[0][0]
                self.assertEqual(field.degree, 2)
                for b in (-1, 2, 3, 5, 7, (1, prime), (-3, 5), prime * 11):
                    self.assertEqual(sign_at(prime, a, b) == 1, norm_member(field, b) is not None)
        self.assertEqual(Field.of(2, (2, 2, 1)).degree, 2)

    def test_places(self):
        draw = drawer(195)
        for _ in range(200):
            a, b = drawn(draw), drawn(draw)
            told = sign_places(a, b)
            self.assertEqual(told, tuple(p for p in all_places(a, b) if sign_at(p, a, b) == -1))
            self.assertEqual(len(told) % 2, 0)
        self.assertEqual(sign_places(10 ** 6, -10 ** 6), ())
        self.assertEqual(sign_places(999983, -999983), ())

    def test_two_odd_primes(self):
        odd = [p for p in range(3, 90) if len(primes_of(p)) == 1] + [999983, 999979]
        for p, q in combinations(odd, 2):
            self.assertEqual(square_sign(p, q) * square_sign(q, p), (-1) ** ((p - 1) // 2 * ((q - 1) // 2)))

    def test_wrong_arguments(self):
        number = (InvalidNumber, WRONG_NUMBERS + ((1, 2), (3, 1)))
        self.check_parameters(square_sign, (7, 3), ((InvalidNumber, WRONG_PLACES + (0, 2)), number))
        self.check_parameters(is_square_at, (7, 3), (PLACE, SIGNED))
        self.check_parameters(sign_at, (2, 3, (5, 7)), (PLACE, SIGNED, SIGNED))
        self.check_parameters(sign_places, (3, (5, 7)), (SIGNED, SIGNED))
        self.assertEqual(sign_at(0, 10 ** 6, (-10 ** 6, 999999)), 1)
        self.assertEqual(sign_at(999983, -10 ** 6, (1, 10 ** 6)), 1)


class FormsTest(unittest.TestCase, ErrorCase):

    def check_form(self, a, b):
        word, told = solved_form(a, b)
        if word == "solution":
            x, y, z = told
            self.assertTrue((x, y, z) != (0, 0, 0) and a * x * x + b * y * y == z * z)
            self.assertTrue(all(abs(n) < BIG for n in told))
            self.assertEqual(sign_places(a, b), ())
        else:
            self.assertEqual((word, sign_at(told, a, b)), ("place", -1))
        self.assertIs(is_solved_form(a, b, (word, told)), True)
        return word

    def test_small_forms(self):
        words = [self.check_form(a, b) for a, b in product(range(-30, 31), repeat=2) if a and b]
        self.assertTrue(words.count("solution") > 300 and words.count("place") > 300)

    def test_great_forms(self):
        draw = drawer(196)
        for _ in range(300):
            self.check_form(drawn(draw, ratios=False), drawn(draw, ratios=False))
        for a, b in ((10 ** 6, 10 ** 6), (-10 ** 6, 10 ** 6), (999983, -999983), (999983, 999979), (953708, 673366),
                     (-765659, 533879), (510510, -510510), (1, -10 ** 6), (-10 ** 6, -1), (720720, 999983)):
            self.check_form(a, b)
        told = 0
        while told < 60:
            a, b = draw.randint(500000, 10 ** 6), draw.randint(-10 ** 6, 10 ** 6)
            if b and sign_places(a, b) == ():
                told += self.check_form(a, b) == "solution"

    def test_solution_modulo_primes_is_not_enough(self):
        self.assertEqual(self.check_form(-1, -1), "place")
        self.assertEqual(self.check_form(3, 3), "place")

    def test_judged(self):
        self.assertIs(is_solved_form(2, -1, ("solution", (1, 1, 1))), True)
        self.assertIs(is_solved_form(2, -1, ("solution", (-5 * BIG ** 2, 5 * BIG ** 2, 5 * BIG ** 2))), True)
        self.assertIs(is_solved_form(1, 1, ("solution", (0, 0, 0))), False)
        self.assertIs(is_solved_form(2, -1, ("solution", (1, 1, 2))), False)
        for place in (0, 2, 3, 5, 7, 11, 999983):
            self.assertIs(is_solved_form(-1, -1, ("place", place)), place in (0, 2))
            self.assertIs(is_solved_form(2, 3, ("place", place)), place in (2, 3))
        wrongs = (0, (), ("solution",), ("place",), ("place", 4), ("place", (2,)), ("place", True), ("place", False),
                  ("place", None), ("place", 10 ** 200), ("solution", (1, 1)), ("solution", [0, 1, 1]), ["place", 2],
                  ("solution", (1, 0, True)), ("other", 2), (2, "place"), ("place", 2, 2), ("solution", (1, 0, 1, 0)),
                  ("solution", 1), ("solution", ((1,), (0,), (1,))))
        self.check_judge(is_solved_form, (-1, -1), wrongs)
        self.check_judge(is_solved_form, (1, 7), wrongs)

    def test_wrong_arguments(self):
        signed = (InvalidNumber, WRONG_SIGNED + ((1, 2), (-3, 1), (5, 7)))
        self.check_parameters(solved_form, (3, 5), (signed, signed))
        self.check_parameters(is_solved_form, (3, 5, ("place", 3)), (signed, signed, None))


class ProductsTest(unittest.TestCase, ErrorCase):

    def check_product(self, one, places):
        told = places_by_signs(one, places)
        wanted = len(places) % 2 == 0 and not any(is_square_at(place, one) for place in places)
        self.assertIs(told is not None, wanted, (one, places))
        if told is not None:
            self.assertLessEqual(len(told), 14)
            self.assertEqual(told, tuple(sorted(set(told))))
            self.assertTrue(all(place == 0 or len(primes_of(place)) == 1 for place in told))
            self.assertTrue(are_places_by_rule(one, places, told))
            self.assertIs(are_places_by_signs(one, places, told), True)

    def test_all_places_given(self):
        given = [lot for many in range(5) for lot in combinations((0, 2, 3, 5, 7), many)]
        self.assertEqual(len(given), 31)
        for one in (1, -1, 2, -2, 3, -3, 5, 6, -7, 17, 210, (1, 2), (-3, 35), 4, (9, 4), -30):
            for places in given:
                self.check_product(one, places)

    def test_drawn_numbers(self):
        draw = drawer(197)
        for _ in range(250):
            places = tuple(sorted(draw.sample((0, 2, 3, 5, 7), draw.choice((0, 2, 2, 4)))))
            self.check_product(drawn(draw), places)

    def test_numbers_with_many_primes(self):
        for one in ((510510, 19 * 23 * 29 * 31), (-510510, 19 * 23 * 29 * 31), (-30030, 17 * 19 * 23 * 29),
                    (11 * 13 * 17 * 19, 23 * 29 * 31), (-11 * 13 * 17 * 19 * 3, 23 * 29 * 31 * 37), (999983, 999979)):
            for places in ((), (0, 2), (2, 3), (3, 5), (0, 2, 3, 5), (2, 3, 5, 7), (0, 7), (5, 7)):
                self.check_product(one, places)

    def test_primes_that_divide_often(self):
        for one in (27, -125, 9 * 49, 3375, -3375, 9261, -42875, (27, 125), (-343, 27), 8 * 3375, 3 ** 5 * 7 ** 3, 81 * 625):
            for places in ((), (0, 2), (2, 3), (3, 5), (5, 7), (3, 7), (0, 5), (2, 3, 5, 7), (0, 3, 5, 7)):
                self.check_product(one, places)

    def test_nothing_given(self):
        for one in (1, 4, -1, 30, (5, 7)):
            self.assertIs(are_places_by_signs(one, (), ()), True)
            self.check_product(one, ())

    def test_judged(self):
        self.assertIs(are_places_by_signs(-1, (0, 2), (0,)), True)
        self.assertIs(are_places_by_signs(-1, (0, 2), (0, 5)), True)
        self.assertIs(are_places_by_signs(-1, (0, 2), (0, 3)), False)
        self.assertIs(are_places_by_signs(-1, (2, 3), (3,)), True)
        self.assertIs(are_places_by_signs(-1, (2, 3), (3, 999953)), are_places_by_rule(-1, (2, 3), (3, 999953)))
        draw = drawer(198)
        for _ in range(300):
            one = drawn(draw, 99)
            value = tuple(sorted(draw.sample((0, 2, 3, 5, 7, 11, 13, 17, 19), draw.randint(0, 5))))
            places = tuple(sorted(draw.sample((0, 2, 3, 5, 7), draw.choice((0, 2)))))
            self.assertIs(are_places_by_signs(one, places, value), are_places_by_rule(one, places, value))
            told = tuple(p for p in all_places(one, *[q for q in value if q]) if
                         sign_by_rule(p, one, prod(q or -1 for q in value)) == -1)
            if len(told) <= 4 and all(p in (0, 2, 3, 5, 7) for p in told):
                self.assertIs(are_places_by_signs(one, told, value), True)
        # More than fourteen places are no result, even if their product is right.
        squares = [p for p in range(3, 400) if len(primes_of(p)) == 1 and p % 4 == 1][:16]
        self.assertIs(are_places_by_signs(-1, (), tuple(squares[:14])), True)
        self.assertIs(are_places_by_signs(-1, (), tuple(squares[:15])), False)
        wrongs = (0, None, (0, 0), (5, 0), (2, 2), (1,), (4,), (0, 1000003), [0], (True,), (False,), (0, "5"), ((0,),),
                  (0, 10 ** 100), {0: 5})
        self.check_judge(are_places_by_signs, (-1, (0, 2)), wrongs)

    def test_wrong_arguments(self):
        places = (InvalidOperation, tuple(x for x in NOTHING_LIKE_IT if x != ()) + (
            0, 2, (1,), (4,), (11,), (0, 0), (2, 0), (3, 2), (0, 2, 3, 5, 7), (0, 11), [0, 2], (False, 2), (0, True),
            (0, None), ((0, 2),), (BIG,), {0: 2}))
        self.check_parameters(places_by_signs, (-1, (0, 2)), (SIGNED, places))
        self.check_parameters(are_places_by_signs, (-1, (0, 2), (0,)), (SIGNED, places, None))


if __name__ == "__main__":
    unittest.main()
