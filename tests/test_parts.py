"""Stage 9: parts of a polynomial with integers."""

import unittest
from time import perf_counter

from tests import over, ring
from tests.samples import A, B, C, D, drawn_member
from tests.test_maps import MORE
from tests.tools import BIG, NOTHING_LIKE_IT, WRONG_POLYNOMIALS, WRONG_PRIMES, ErrorCase, deep, drawer, exponent
from wildsteps.errors import InvalidNumber, InvalidPolynomial, Refused
from wildsteps.fields.fields import Field, low_letter, polynomial_of, top_letter
from wildsteps.parts import parts
from wildsteps.parts.parts import are_parts, is_unsplit, near_bound, part_sizes, parts_of
from wildsteps.prime.lines import is_regular, line_sizes
from wildsteps.prime.rests import discriminant, factors_modulo, polynomial_product, shifted_polynomial
from wildsteps.roots.maps import are_alike
from wildsteps.roots.roots import roots_number

PRIME = (InvalidNumber, WRONG_PRIMES)
WRONG_MONICS = WRONG_POLYNOMIALS + (
    (), (1,), (2,), (1, 2), (1, -1), (3, 0, 5), (0,) * 7 + (1,), (1,) * 8, (1, 0, 0, 0, 0, 0, 0, 0, 1), deep(1, 2))
MONIC = (InvalidPolynomial, WRONG_MONICS)
FUNCTIONS = (near_bound, parts_of, part_sizes, is_unsplit)


def product_of(polynomials):
    total = (1,)
    for polynomial in polynomials:
        total = ring_product(total, polynomial)
    return total


def ring_product(one, other):
    result = [0] * (len(one) + len(other) - 1)
    for i, a in enumerate(one):
        for k, b in enumerate(other):
            result[i + k] += a * b
    return tuple(result)


def value_of_discriminant(prime, polynomial):
    """By the table of both polynomials."""
    n = len(polynomial) - 1
    slopes = [k * polynomial[k] for k in range(1, n + 1)]
    rows = [[0] * k + list(polynomial[::-1]) + [0] * (n - 2 - k) for k in range(n - 1)]
    rows += [[0] * k + slopes[::-1] + [0] * (n - 1 - k) for k in range(n)]
    number = over.integer_determinant(rows)
    return None if number == 0 else exponent(prime, number)


def sizes_of(told):
    return tuple(sorted((field.step_size, field.plain_size) for field, _ in told))


def drawn_products(draw, many, fields=MORE):
    """Products of the polynomials of members of known fields: the prime, the polynomial, and the parts."""
    found = []
    while len(found) < many:
        prime = draw.choice((2, 2, 3, 3, 5, 7))
        lot = [field for field in fields if field.prime == prime]
        told, left = [], 6
        while left and (not told or draw.random() < 0.6):
            field = draw.choice([field for field in lot if field.degree <= left])
            member = drawn_member(draw, field, 2)
            if draw.random() < 0.7:
                small = ring.added(low_letter(field), top_letter(field))
                member = ring.added(small, over.scaled(member, prime ** draw.randint(0, 3)))
            told.append((field, member))
            left -= field.degree
        polynomial = product_of([polynomial_of(field, member) for field, member in told])
        value = value_of_discriminant(prime, polynomial)
        if value is not None and value <= 30 and max(map(abs, polynomial)) < BIG:
            found.append((prime, polynomial, tuple(told)))
    return found


class PartsTest(unittest.TestCase, ErrorCase):

    def test_constants_and_examples(self):
        self.assertEqual((parts.MAX_PARTED, parts.MAX_CLOSE), (6, 30))
        self.assertEqual(
            [near_bound(2, (1, 0, 1)), part_sizes(2, (1, 0, 1)), part_sizes(2, (-1, 0, 0, 1)), part_sizes(3, (-1, 0, 0, 1)),
             part_sizes(7, (-2, 0, 1)), is_unsplit(5, (-2, 0, 1))],
            [5, ((2, 1),), ((1, 1), (1, 2)), ((1, 1), (2, 1)), ((1, 1), (1, 1)), True])

    def check_parts(self, prime, polynomial, told):
        """The document's own words: polynomials by tables of the tests, and their product."""
        modulus = prime ** near_bound(prime, polynomial)
        product = product_of([self.polynomial_by_table(field, member) for field, member in told])
        self.assertEqual([n % modulus for n in product], [n % modulus for n in polynomial])
        for field, member in told:
            self.assertEqual(field.prime, prime)
            self.assertTrue(all(abs(n) < BIG for row in member + field.top + (field.low,) for n in row))

    def polynomial_by_table(self, field, member):
        """By the sums of powers, from traces of the test's own table."""
        table, n = ring.table(field, member), field.degree
        power, numbers = [[int(i == k) for k in range(n)] for i in range(n)], [1]
        sums = []
        for count in range(1, n + 1):
            power = [[sum(row[m] * table[m][k] for m in range(n)) for k in range(n)] for row in power]
            sums.append(sum(power[k][k] for k in range(n)))
            numbers.append(-sum(numbers[count - k] * sums[k - 1] for k in range(1, count + 1)) // count)
        return tuple(numbers[::-1])

    def test_products_with_known_parts(self):
        draw = drawer(1)
        wild = 0
        for prime, polynomial, known in drawn_products(draw, 150):
            self.assertEqual(near_bound(prime, polynomial), 2 * value_of_discriminant(prime, polynomial) + 1)
            self.assertEqual(part_sizes(prime, polynomial), sizes_of(known))
            self.assertIs(is_unsplit(prime, polynomial), len(known) == 1)
            told = parts_of(prime, polynomial)
            self.check_parts(prime, polynomial, told)
            self.assertEqual(sizes_of(told), sizes_of(known))
            self.assertIs(are_parts(prime, polynomial, told), True)
            for value in (known, known[::-1], told[::-1]):
                self.assertIs(are_parts(prime, polynomial, value), True)
            self.check_kinds(known, told)
            wild += any(field.step_size % prime == 0 for field, _ in told)
        self.assertGreater(wild, 50)

    def check_kinds(self, known, told):
        """The fields of the factors are those of the known ones, up to being alike."""
        left = list(told)
        for field, _ in known:
            at = next(k for k, (other, _) in enumerate(left) if are_alike(field, other))
            del left[at]
        self.assertEqual(left, [])

    def test_moved_and_near_polynomials(self):
        draw = drawer(2)
        for prime, polynomial, known in drawn_products(draw, 40):
            sizes, bound = sizes_of(known), near_bound(prime, polynomial)
            moved = shifted_polynomial(polynomial, draw.randint(-20, 20))
            self.assertEqual((part_sizes(prime, moved), near_bound(prime, moved)), (sizes, bound))
            near = tuple(n + prime ** bound * draw.randint(-9, 9) for n in polynomial[:-1]) + (1,)
            self.assertEqual((part_sizes(prime, near), near_bound(prime, near)), (sizes, bound))
            self.assertIs(are_parts(prime, near, known), True)
            self.assertIs(are_parts(prime, polynomial, parts_of(prime, near)), True)
            far = tuple(n + prime ** (bound - 1) * (k == 0) for k, n in enumerate(polynomial))
            if part_sizes_or_none(prime, far) is not None and near_bound(prime, far) == bound:
                self.assertIs(are_parts(prime, far, known), False)

    def test_drawn_polynomials(self):
        draw = drawer(3)
        for _ in range(250):
            prime, degree = draw.choice((2, 3, 5, 7)), draw.randint(1, 6)
            polynomial = tuple(draw.randint(-40, 40) * prime ** draw.choice((0, 0, 1, 2)) for _ in range(degree)) + (1,)
            value = value_of_discriminant(prime, polynomial)
            if value is None or value > 30:
                continue
            sizes = part_sizes(prime, polynomial)
            self.assertEqual(sum(e * f for e, f in sizes), degree)
            self.assertEqual(list(sizes), sorted(sizes))
            if value == 0:
                expected = sorted((1, len(factor) - 1) for factor, _ in factors_modulo(prime, polynomial))
                self.assertEqual(list(sizes), expected)
            if polynomial[0] and is_regular(prime, polynomial):
                self.assertEqual(sizes, line_sizes(prime, polynomial))
            if all(prime ** f <= 64 for _, f in sizes):
                told = parts_of(prime, polynomial)
                self.check_parts(prime, polynomial, told)
                self.assertEqual(sizes_of(told), sizes)
                self.assertIs(are_parts(prime, polynomial, told), True)
            else:
                self.assert_too_many(64, parts_of, prime, polynomial)
            if prime ** degree <= 64:
                plain = Field.plain(prime, 1)
                self.assertEqual(roots_number_or_none(plain, polynomial), sizes.count((1, 1)))

    def test_eisenstein_polynomials(self):
        draw = drawer(4)
        for _ in range(60):
            prime, degree = draw.choice((2, 3, 5, 7)), draw.randint(1, 6)
            first = prime * draw.choice([n for n in range(1, 30) if n % prime])
            polynomial = (first,) + tuple(prime * draw.randint(-5, 5) for _ in range(degree - 1)) + (1,)
            if value_of_discriminant(prime, polynomial) > 30:
                continue
            self.assertEqual((part_sizes(prime, polynomial), is_unsplit(prime, polynomial)), (((degree, 1),), True))
            field = Field.of(prime, polynomial)
            self.assertIs(are_parts(prime, polynomial, ((field, top_letter(field)),)), True)
            self.assertTrue(are_alike(field, parts_of(prime, polynomial)[0][0]))

    def test_what_is_not_true(self):
        # Alike modulo 2 ** v(D), with other fields.
        one, other = (1, 0, 1), (5, 0, 1)
        self.assertEqual([discriminant(g) for g in (one, other)], [-4, -20])
        self.assertTrue(all((a - b) % 4 == 0 for a, b in zip(one, other)))
        (field, _), = parts_of(2, one)
        (further, _), = parts_of(2, other)
        self.assertFalse(are_alike(field, further))
        self.assertTrue(are_alike(field, A))
        # A power of one polynomial modulo p can come apart.
        self.assertEqual(factors_modulo(3, (-9, 0, 1)), (((0, 1), 2),))
        self.assertIs(is_unsplit(3, (-9, 0, 1)), False)
        # Two ways to tell the parts of one polynomial.
        told = parts_of(2, one)
        self.assertIs(are_parts(2, one, ((A, ((1,), (1,))),)), True)
        self.assertIs(are_parts(2, one, ((A, ((-1,), (-1,))),)), True)
        self.assertIs(are_parts(2, one, told), True)


def part_sizes_or_none(prime, polynomial):
    value = value_of_discriminant(prime, polynomial)
    return None if value is None or value > 30 else part_sizes(prime, polynomial)


def roots_number_or_none(field, polynomial):
    return roots_number(field, over.whole_over(field, polynomial))


class JudgeTest(unittest.TestCase, ErrorCase):

    def test_wrong_parts(self):
        draw = drawer(5)
        for prime, polynomial, known in drawn_products(draw, 40):
            field, member = known[0]
            wrong = [
                known[1:], known + known[:1], known[1:] + known[:1] * 2, list(known), known[1:] + ([field, member],),
                known[1:] + ((field, member, 1),), known[1:] + ((field,),), known[1:] + ((member, field),),
                known[1:] + ((field, list(member)),), known[1:] + ((field, member[1:]),), known[1:] + (field,),
                known[1:] + ((field, ring.added(member, ring.whole(field, 1))),), dict(enumerate(known)), known[0],
                known[1:] + ((Field.plain(2 if prime == 3 else 3, 1), ((0,),)),)]
            for value in wrong:
                self.assertIs(are_parts(prime, polynomial, value), False)
        self.check_judge(are_parts, (2, (1, 0, 1)), [
            A, (A,), ((A, A),), ((A, ((True,), (1,))),), ((A, ((1,), (True,))),), ((A, ((1, 1), (1, 1))),), ((B, ((1,), (1,))),),
            ((A, (1, 1)),), ((C, ((1,), (1,), (0,))),), (), ((D, ((1, 1),)),), ((A, ((1,), (1,))),) * 2])
        self.assertIs(are_parts(2, (1, 1), ((Field.plain(2, 1), ((True,),)),)), False)
        self.assertIs(are_parts(2, (1, 1), ((Field.plain(2, 1), ((-1,),)),)), True)

    def test_other_members_and_fields(self):
        bound = near_bound(2, (1, 0, 1))
        for member in (((1,), (1,)), ((1 + 2 ** 700,), (1,)), ((1,), (1 - 2 ** 700,)), ((-1 - 2 ** bound,), (-1,))):
            self.assertIs(are_parts(2, (1, 0, 1), ((A, member),)), True)
        for k in (0, 1, 2, 3):
            member = ((1 + 2 ** k,), (1,))
            product = ring_product((1,), polynomial_of(A, member))
            near = all((a - b) % 2 ** bound == 0 for a, b in zip(product, (1, 0, 1)))
            self.assertIs(are_parts(2, (1, 0, 1), ((A, member),)), near)
        other = Field.of(2, (2 + 2 ** 9, 2 - 2 ** 12, 1))
        self.assertIs(are_parts(2, (1, 0, 1), ((other, ((1,), (1,))),)), True)

    def test_one_factor_told_twice(self):
        # x x - 9 has the roots 3 and - 3; both parts with one root make another polynomial.
        plain = Field.plain(2, 1)
        self.assertIs(are_parts(2, (-9, 0, 1), ((plain, ((3,),)), (plain, ((-3,),)))), True)
        self.assertIs(are_parts(2, (-9, 0, 1), ((plain, ((3,),)), (plain, ((3,),)))), False)


class LimitsTest(unittest.TestCase, ErrorCase):

    def test_degrees(self):
        for prime in (2, 3, 5, 7):
            for polynomial in ((0, 1), (-5, 1), (prime, 1), (BIG - 1, 1)):
                self.assertEqual((near_bound(prime, polynomial), part_sizes(prime, polynomial)), (1, ((1, 1),)))
                told = parts_of(prime, polynomial)
                self.assertIs(are_parts(prime, polynomial, told), True)
                self.assertTrue(is_unsplit(prime, polynomial))
        self.assertEqual(part_sizes(2, (1, 1, 0, 0, 0, 0, 1)), ((1, 6),))
        for function in FUNCTIONS:
            self.assert_raises_just(InvalidPolynomial, function, 2, (1,) * 8)

    def test_depths_of_30_and_31(self):
        for value in (28, 30, 31, 32, 60):
            # x x - 3 ** value, x x + 3 ** 15 x ..: v(D) is the value.
            polynomial = (-3 ** value, 0, 1)
            self.assertEqual(value_of_discriminant(3, polynomial), value)
            if value <= 30:
                self.assertEqual(near_bound(3, polynomial), 2 * value + 1)
                told = parts_of(3, polynomial)
                self.assertIs(are_parts(3, polynomial, told), True)
                self.assertTrue(all(abs(n) < BIG for field, m in told for row in m + field.top for n in row))
                self.assertEqual(part_sizes(3, polynomial), ((1, 1), (1, 1)))
            else:
                for function in FUNCTIONS:
                    self.assert_too_many(30, function, 3, polynomial)
                self.assert_too_many(30, are_parts, 3, polynomial, ())
        for polynomial, sizes in (((7 ** 15, 0, 0, 1), ((1, 1), (1, 2))), ((7 ** 14, 0, 0, 1), ((3, 1),))):
            value = value_of_discriminant(7, polynomial)
            self.assertIn(value, (28, 30))
            self.assertIs(are_parts(7, polynomial, parts_of(7, polynomial)), True)
        deep_ones = product_of([(-k, 1) for k in (0, 4, 8, 12)])
        self.assertEqual(value_of_discriminant(2, deep_ones), 28)
        self.assertEqual(part_sizes(2, deep_ones), ((1, 1),) * 4)
        self.assertIs(are_parts(2, deep_ones, parts_of(2, deep_ones)), True)

    def test_double_roots_come_first(self):
        for prime in (2, 3, 5, 7):
            for polynomial in ((0, 0, 1), (1, 2, 1), (1, 0, 2, 0, 1), product_of([(3, 1)] * 2 + [(prime ** 40, 1)])):
                for function in FUNCTIONS:
                    self.assertEqual(self.assert_raises_just(Refused, function, prime, polynomial).reason, ("double",))
                caught = self.assert_raises_just(Refused, are_parts, prime, polynomial, None)
                self.assertEqual(caught.reason, ("double",))

    def test_residues_above_64(self):
        for prime, size in ((3, 4), (3, 5), (3, 6), (5, 3), (7, 3), (5, 6), (7, 6)):
            low = next(low for low in lows(prime, size))
            self.assertEqual(part_sizes(prime, low), ((1, size),))
            self.assert_too_many(64, parts_of, prime, low)
            self.assertIs(is_unsplit(prime, low), True)
            self.assertIs(are_parts(prime, low, ()), False)
            if size < 6:
                further = polynomial_product(low, (prime, 1))
                self.assertEqual(part_sizes(prime, further), ((1, 1), (1, size)))
                self.assert_too_many(64, parts_of, prime, further)
        # v(D) above 30 comes ahead of it.
        low = lows(5, 3)[0]
        for k, value in ((4, 24), (5, 30), (6, 36)):
            twice = product_of([low, (low[0] + 5 ** k,) + low[1:]])
            self.assertEqual(value_of_discriminant(5, twice), value)
            self.assert_too_many(30 if value > 30 else 64, parts_of, 5, twice)
            if value <= 30:
                self.assertEqual(part_sizes(5, twice), ((1, 3), (1, 3)))

    def test_long_integers(self):
        draw = drawer(6)
        for _ in range(20):
            prime, degree = draw.choice((2, 3, 5, 7)), draw.randint(2, 6)
            polynomial = tuple(draw.randint(1 - BIG, BIG - 1) for _ in range(degree)) + (1,)
            if value_of_discriminant(prime, polynomial) > 30:
                continue
            sizes = part_sizes(prime, polynomial)
            if all(prime ** f <= 64 for _, f in sizes):
                told = parts_of(prime, polynomial)
                self.assertIs(are_parts(prime, polynomial, told), True)
                self.assertTrue(all(abs(n) < BIG for field, m in told for row in m + field.top for n in row))

    def test_wrong_inputs(self):
        for function in FUNCTIONS:
            self.check_parameters(function, (2, (1, 0, 1)), (PRIME, MONIC))
        self.check_parameters(are_parts, (2, (1, 0, 1), None), (PRIME, MONIC, None))
        self.assert_raises_just(InvalidPolynomial, parts_of, 3, (0, 0, 2))

    def test_times(self):
        draw = drawer(7)
        lot = drawn_products(draw, 30)
        start = perf_counter()
        for prime, polynomial, _ in lot:
            are_parts(prime, polynomial, parts_of(prime, polynomial))
        self.assertLess(perf_counter() - start, 30 * 0.3)


def lows(prime, size):
    """Some polynomials of the size that do not come apart modulo the prime."""
    found = []
    draw = drawer(8)
    while len(found) < 2:
        polynomial = tuple(draw.randint(0, prime - 1) for _ in range(size)) + (1,)
        factors = factors_modulo(prime, polynomial)
        if len(factors) == 1 and factors[0][1] == 1:
            found.append(polynomial)
    return found


class LinesTest(unittest.TestCase):

    def test_regular_lines_tell_the_parts(self):
        for prime, polynomial, sizes in (
                (2, (4, 2, 1), ((1, 2),)), (2, (8, 0, 0, 2, 1), ((4, 1),)), (2, (8, 0, 0, 1, 1), ((1, 1), (1, 1), (1, 2))),
                (3, (27, 9, 0, 1), ((1, 1), (1, 2))), (2, (4, 2, 0, 1), ((1, 1), (2, 1)))):
            self.assertIs(is_regular(prime, polynomial), True)
            self.assertEqual(line_sizes(prime, polynomial), sizes)
            self.assertEqual(part_sizes(prime, polynomial), sizes)


if __name__ == "__main__":
    unittest.main()
