"""Stage 4: fields and their members."""

import unittest

from tests import ring
from tests.samples import BOTH, FIELDS, PLAIN, STEPS, A, B, C, D, drawn_digit, drawn_member
from tests.test_rests import irreducible_ones
from tests.tools import BIG, NOTHING_LIKE_IT, PRIMES, WRONG_LEVELS, WRONG_POLYNOMIALS, WRONG_PRIMES, WRONG_WHOLES
from tests.tools import ErrorCase, at_least, deep, drawer, exponent
from wildsteps.errors import InvalidField, InvalidMember, InvalidNumber, InvalidOperation, InvalidPolynomial, TooMany
from wildsteps.fields import fields
from wildsteps.fields.fields import Field, are_near, digits_of, is_member, low_letter, member_difference
from wildsteps.fields.fields import member_of_digits, member_power, member_product, member_sum, member_value
from wildsteps.fields.fields import near_member, norm_of, polynomial_of, top_letter, trace_of, whole_member
from wildsteps.prime.rests import least_low

WRONG_FIELDS = NOTHING_LIKE_IT + (0, 2, (2, (0, 1), ((-2,), (1,))), [A], (A,), {1: A})
WRONG_LOWS = WRONG_POLYNOMIALS + (
    (), (1,), (3, 2), (0, 0, 1), (1, 0, 1), (0, 1, 1), (1, 1, -1), (1, 1, 3), (1,) * 9, (BIG, 1), (0, 0, 0, 1))
WRONG_TOPS = NOTHING_LIKE_IT + (
    (), ((1,),), ((2,),), ((2,), (2,)), ((2,), (-1,)), ((2,), (3,)), ((1,), (1,)), ((4,), (1,)), ((0,), (1,)),
    ((8,), (0,), (1,)), ((2,), (1,), (1,)), ((2,), (3,), (1,)), ((2, 0), (1, 0)), ((2,), (1, 0)), ((2,), ()),
    ((True,), (1,)), ((2,), (True,)), ((2,), (False,), (1,)), (2, 1), [(2,), (1,)], ([2], [1]), ((2,), [1]),
    (((2,),), ((1,),)), ((BIG,), (1,)), ((2,), (-BIG,), (1,)), ((2,), (None,), (1,)), ((2,), ("0",), (1,)),
    ((2,), (1,), (0,)), ((2,), (0,), (0,)), ((1,), (2,)), ((2,), (2, 2), (1,)), deep(2, 4), ((10 ** 219,), (1,)))
WRONG_MEMBERS = NOTHING_LIKE_IT + (
    0, 1, (), ((),), ((1,),), ((1,), ()), ((1,), (1,), (1,)), ((1, 2), (3, 4)), ((1,), (1, 2)), ((True,), (1,)),
    ((1,), (False,)), ((1,), (None,)), (1, 2), [(1,), (2,)], ((1,), [2]), ([1], [2]), (((1,),), ((2,),)), ((BIG,), (0,)),
    ((0,), (-BIG,)), ((1,), ("2",)), ((1,), 2), {0: (1,), 1: (2,)}, ((10 ** 219,), (1,)), A, (A, A), ((A,), (A,)))
ONE, TWO = ((1,), (3,)), ((-2,), (5,))


def long_member(field, number=BIG - 1):
    sign = 1 if number > 0 else -1
    return tuple(tuple(number - sign * 7 * i for i in range(field.plain_size)) for _ in range(field.step_size))


class MakingTest(unittest.TestCase, ErrorCase):

    def test_constants(self):
        self.assertEqual((fields.MAX_FIELD_DEGREE, fields.MAX_RESIDUES), (6, 64))

    def test_properties(self):
        for prime, low, top in (
                (2, (0, 1), ((-2,), (1,))), (2, (7, 1), ((2,), (4,), (2,), (1,))), (3, (-5, 9, 1), ((3, 3), (1, 0))),
                (2, (3, 5, -6, 1), ((2, 4, 0), (0, -8, 6), (1, 0, 0))), (7, (1, 0, 1), ((7, 49), (0, 7), (1, 0))),
                (5, (BIG - 3, 1), ((5 - BIG,), (1,)))):
            field = Field(prime, low, top)
            e, f = len(top) - 1, len(low) - 1
            self.assertEqual((field.prime, field.low, field.top), (prime, low, top))
            self.assertEqual((field.step_size, field.plain_size, field.degree), (e, f, e * f))
            self.assertEqual(field.residues, prime ** f)
            self.assertEqual(str(field), f"field of degree {e * f} over {prime}, {e} by {f}")

    def test_text(self):
        self.assertEqual(str(D), "field of degree 2 over 2, 1 by 2")
        self.assertEqual(str(BOTH[0]), "field of degree 4 over 2, 2 by 2")
        self.assertEqual(f"{C}", "field of degree 3 over 3, 3 by 1")

    def test_all_low_polynomials(self):
        for prime, most in ((2, 6), (3, 3), (5, 2), (7, 2)):
            alone = irreducible_ones(prime, most)
            for low in alone:
                f = len(low) - 1
                top = ((prime,) + (0,) * (f - 1), (1,) + (0,) * (f - 1))
                self.assertEqual(Field(prime, low, top).low, low)
                for change in (prime, -prime, prime ** 20):
                    other = (low[0] + change,) + low[1:-1] + (1,)
                    self.assertEqual(Field(prime, other, top).low, other)

    def test_top_polynomials_of_each_size(self):
        for prime in PRIMES:
            for e in range(1, 7):
                for first in (prime, -prime, prime * (prime + 1), prime * (1 - prime * prime)):
                    top = ((first,),) + ((3 * prime,),) * (e - 1) + ((1,),)
                    self.assertEqual(Field(prime, (0, 1), top).step_size, e)
                    self.assertEqual(Field.of(prime, tuple(row[0] for row in top)), Field(prime, (0, 1), top))
                for first in (0, 1, prime * prime, prime + 1, -prime ** 3):
                    top = ((first,),) + ((prime,),) * (e - 1) + ((1,),)
                    self.assert_raises_just(InvalidField, Field, prime, (0, 1), top)
                    self.assert_raises_just(InvalidField, Field.of, prime, tuple(row[0] for row in top))

    def test_first_low_member_in_part(self):
        for first, fits in (((2, 0), True), ((0, 2), True), ((4, 2), True), ((2, 4), True), ((4, 4), False),
                            ((0, 4), False), ((0, 0), False), ((2, 1), False), ((1, 2), False), ((4, -6), True)):
            args = (2, (1, 1, 1), (first, (0, 2), (1, 0)))
            if fits:
                self.assertEqual(Field(*args).top[0], first)
            else:
                self.assert_raises_just(InvalidField, Field, *args)
        self.assert_raises_just(InvalidField, Field, 2, (1, 1, 1), ((2, 0), (0, 1), (1, 0)))
        self.assert_raises_just(InvalidField, Field, 2, (1, 1, 1), ((2, 0), (1, 1)))
        self.assert_raises_just(InvalidField, Field, 2, (1, 1, 1), ((2, 0), (0, 1)))

    def top(self, prime, e, f):
        empty = (0,) * f
        return ((prime,) + empty[1:],) + (empty,) * (e - 1) + ((1,) + empty[1:],)

    def test_limits(self):
        seven, eight = (1, 1, 0, 0, 0, 0, 0, 1), (1, 1, 0, 1, 1, 0, 0, 0, 1)
        self.assertEqual(Field(2, (0, 1), self.top(2, 6, 1)).degree, 6)
        self.assert_too_many(6, Field, 2, (0, 1), self.top(2, 7, 1))
        self.assert_too_many(6, Field, 2, (0, 1), self.top(2, 200, 1))
        self.assert_too_many(6, Field, 2, (1, 1, 1), self.top(2, 4, 2))
        self.assert_too_many(6, Field, 2, seven, self.top(2, 1, 7))
        self.assert_too_many(6, Field, 2, eight, self.top(2, 1, 8))
        self.assertEqual(Field(2, least_low(2, 6), self.top(2, 1, 6)).residues, 64)
        self.assert_too_many(64, Field, 5, (1, 1, 0, 1), self.top(5, 1, 3))
        self.assert_too_many(64, Field, 5, (1, 1, 0, 1), self.top(5, 2, 3))
        self.assert_too_many(64, Field, 3, (2, 1, 0, 0, 1), self.top(3, 1, 4))
        # Both at once.
        self.assert_too_many(6, Field, 5, (1, 1, 0, 1), self.top(5, 3, 3))
        self.assert_too_many(6, Field, 3, (2, 1, 0, 0, 1), self.top(3, 2, 4))
        # A wrong top polynomial is ahead of the limits.
        self.assert_raises_just(InvalidField, Field, 2, eight, self.top(2, 1, 7))
        self.assert_raises_just(InvalidField, Field, 5, (1, 1, 0, 1), self.top(25, 3, 3))

    def test_low_polynomials_of_degree_eight(self):
        for low in ((1,) * 9, (0,) * 8 + (1,), (2, 1, 0, 1, 1, 0, 0, 0, 1)):
            self.assert_raises_just(InvalidPolynomial, Field, 2, low, self.top(2, 1, 8))
        self.assert_raises_just(InvalidPolynomial, Field, 2, (1, 1) + (0,) * 7 + (1,), self.top(2, 1, 9))

    def test_plain(self):
        for prime in PRIMES:
            for size in range(1, 7):
                if prime ** size > 64:
                    self.assert_too_many(64, Field.plain, prime, size)
                    continue
                field = Field.plain(prime, size)
                self.assertEqual((field.prime, field.low), (prime, least_low(prime, size)))
                self.assertEqual(field.top, ((-prime,) + (0,) * (size - 1), (1,) + (0,) * (size - 1)))
        self.assertEqual(Field.plain(7, 1).low, (0, 1))

    def test_of(self):
        self.assertEqual((A.prime, A.low, A.top), (2, (0, 1), ((2,), (2,), (1,))))
        for polynomial in ((), (2,), (1,), (2, 2), (2, -1), (4, 1), (0, 1), (1, 1), (2, 1, 1), (2, 1, 0, 0, 0, 0, 0, 1)):
            self.assert_raises_just(InvalidField, Field.of, 2, polynomial)
        self.assert_too_many(6, Field.of, 2, (2, 0, 0, 0, 0, 0, 0, 1))
        self.assert_too_many(6, Field.of, 7, (7, 0, 0, 0, 0, 0, 0, 0, 1))
        self.assertEqual(Field.of(2, (BIG - 2, 1)).top, ((BIG - 2,), (1,)))

    def test_equality(self):
        for k, one in enumerate(FIELDS):
            for m, other in enumerate(FIELDS):
                alike = (one.prime, one.low, one.top) == (other.prime, other.low, other.top)
                self.assertIs(one == other, alike)
                self.assertIs(one != other, not alike)
        twin = Field(2, (0, 1), ((2,), (2,), (1,)))
        self.assertTrue(A == twin and not A != twin and A in [B, twin] and A in (twin,))
        self.assertFalse(A == Field.of(2, (2, -2, 1)))
        self.assertFalse(Field(2, (0, 1), ((2,), (1,))) == Field(2, (2, 1), ((2,), (1,))))
        for value in NOTHING_LIKE_IT + (0, 10 ** 219, str(A), (2, (0, 1), A.top)):
            self.assertIs(A == value, False)
            self.assertIs(A != value, True)
            self.assertIs(value == A, False)

    def test_no_iteration(self):
        for field in (A, D):
            self.assertRaises(TypeError, iter, field)
            self.assertRaises(TypeError, list, field)
            self.assertRaises(TypeError, len, field)

    def test_methods_stand_in_the_class(self):
        for name in ("__init__", "__eq__", "__str__", "plain", "of", "prime", "low", "top", "step_size",
                     "plain_size", "degree", "residues"):
            self.assertIn(name, vars(Field))

    def test_properties_stay(self):
        for name in ("prime", "low", "top", "step_size", "plain_size", "degree", "residues"):
            self.assertRaises(AttributeError, setattr, A, name, 3)

    def test_wrong_inputs(self):
        primes, lows, tops = (InvalidNumber, WRONG_PRIMES), (InvalidPolynomial, WRONG_LOWS), (InvalidField, WRONG_TOPS)
        self.check_parameters(Field, (2, (1, 1), ((2,), (1,))), (primes, lows, tops))
        wrong = NOTHING_LIKE_IT + (0, 7, -1, BIG, (2,), (2, 1))
        self.check_parameters(Field.plain, (2, 3), (primes, (InvalidNumber, wrong)))
        self.check_parameters(Field.of, (2, (2, 1)), (primes, (InvalidPolynomial, WRONG_POLYNOMIALS)))
        self.assert_refused(InvalidNumber, 7, Field.plain, (5, 7))
        self.assert_raises_just(InvalidPolynomial, Field.of, 2, (2,) + (0,) * 8 + (1,))


class ReckoningTest(unittest.TestCase, ErrorCase):

    def test_example_of_the_document(self):
        told = [A.degree, str(D), member_value(A, ((2,), (2,))), digits_of(A, ((-1,), (0,)), 4),
                member_product(A, ((1,), (1,)), ((1,), (1,))), norm_of(A, ((1,), (1,)))]
        self.assertEqual(told, [2, "field of degree 2 over 2, 1 by 2", 2, ((1,), (0,), (1,), (1,)), ((-1,), (0,)), 1])

    def test_values_of_the_document(self):
        self.assertEqual(member_power(A, ((1,), (1,)), 2), ((-1,), (0,)))
        self.assertEqual(member_power(B, ((1,), (1,)), 2), ((3,), (0,)))
        self.assertEqual(member_power(C, top_letter(C), 3), ((3,), (0,), (0,)))
        self.assertEqual(str(D), "field of degree 2 over 2, 1 by 2")

    def test_letters(self):
        for field in FIELDS:
            t, r = ring.letters(field)
            self.assertEqual(low_letter(field), t)
            self.assertEqual(top_letter(field), r)
            self.assertEqual(member_value(field, top_letter(field)), 1)
            self.assertEqual(member_value(field, whole_member(field, field.prime)), field.step_size)
        self.assertEqual(low_letter(Field(5, (-12, 1), ((5,), (1,)))), ((12,),))
        self.assertEqual(top_letter(Field(7, (3, 1, 1), ((7, -7), (1, 0)))), ((-7, 7),))

    def test_whole_members(self):
        for field in FIELDS:
            for number in (0, 1, -3, BIG - 1, 1 - BIG):
                self.assertEqual(whole_member(field, number), ring.whole(field, number))

    def test_sums_and_products(self):
        draw = drawer(1)
        for field in FIELDS:
            for _ in range(12):
                one, other = drawn_member(draw, field), drawn_member(draw, field, 10 ** 15)
                self.assertEqual(member_sum(field, one, other), ring.added(one, other))
                self.assertEqual(member_difference(field, one, other), ring.added(one, other, -1))
                self.assertEqual(member_product(field, one, other), ring.product(field, one, other))

    def test_letters_fulfil_their_polynomials(self):
        for field in FIELDS:
            t, r = low_letter(field), top_letter(field)
            zero = whole_member(field, 0)
            total = zero
            for k, number in enumerate(field.low):
                total = member_sum(field, total, member_product(field, whole_member(field, number),
                                                                member_power(field, t, k)))
            self.assertEqual(total, zero)
            total = zero
            for k, row in enumerate(field.top):
                member = (row,) + ((0,) * field.plain_size,) * (field.step_size - 1)
                total = member_sum(field, total, member_product(field, member, member_power(field, r, k)))
            self.assertEqual(total, zero)

    def test_powers(self):
        draw = drawer(2)
        for field in FIELDS:
            member = drawn_member(draw, field, 2)
            for n in (0, 1, 2, 3, 5):
                self.assertEqual(member_power(field, member, n), ring.power(field, member, n))
            zero, one = whole_member(field, 0), whole_member(field, 1)
            self.assertEqual(member_power(field, zero, 0), one)
            self.assertEqual(member_power(field, zero, 40), zero)
            self.assertEqual(member_power(field, one, 40), one)
            self.assertEqual(member_power(field, whole_member(field, -1), 39), whole_member(field, -1))
            letter = top_letter(field)
            told = ring.power(field, letter, 40)
            if max(abs(number) for row in told for number in row) < BIG:
                self.assertEqual(member_power(field, letter, 40), told)
            else:
                self.assert_too_many(60, member_power, field, letter, 40)

    def test_sixty_digits(self):
        high, half = BIG - 1, 5 * 10 ** 59
        for field in (A, C, D, BOTH[2]):
            one, zero = whole_member(field, 1), whole_member(field, 0)
            longest = long_member(field)
            self.assertEqual(member_sum(field, longest, zero), longest)
            self.assert_too_many(60, member_sum, field, whole_member(field, high), one)
            self.assertEqual(member_sum(field, whole_member(field, half), whole_member(field, half - 1))[0][0], high)
            self.assertEqual(member_difference(field, whole_member(field, -half), whole_member(field, half - 1))[0][0],
                             -high)
            self.assert_too_many(60, member_difference, field, whole_member(field, -high), one)
            self.assertEqual(member_product(field, longest, one), longest)
            self.assert_too_many(60, member_product, field, whole_member(field, 2), whole_member(field, half))
            self.assertEqual(member_product(field, whole_member(field, 10 ** 30 - 1), whole_member(field, 10 ** 30)),
                             whole_member(field, BIG - 10 ** 30))
            self.assert_too_many(60, member_power, field, whole_member(field, -10 ** 30), 2)
            self.assertEqual(member_power(field, whole_member(field, -10 ** 29), 2), whole_member(field, 10 ** 58))
            self.assertEqual(member_power(field, whole_member(field, 31), 40), whole_member(field, 31 ** 40))
            self.assert_too_many(60, member_power, field, whole_member(field, 32), 40)
        # Only the last one of two rows is too long.
        self.assert_too_many(60, member_sum, A, ((0,), (high,)), ((0,), (1,)))
        self.assert_too_many(60, member_product, A, ((0,), (high,)), ((1,), (1,)))

    def test_values(self):
        draw = drawer(3)
        for field in FIELDS:
            self.assertIsNone(member_value(field, whole_member(field, 0)))
            for _ in range(15):
                one, other = drawn_member(draw, field), drawn_member(draw, field)
                first, second = member_value(field, one), member_value(field, other)
                self.assertEqual(first, ring.value(field, one))
                if first is None or second is None:
                    continue
                self.assertEqual(member_value(field, member_product(field, one, other)), first + second)
                total = member_value(field, member_sum(field, one, other))
                self.assertTrue(at_least(total, min(first, second)))
                if first != second:
                    self.assertEqual(total, min(first, second))

    def test_near(self):
        draw = drawer(4)
        for field in FIELDS:
            for _ in range(6):
                one, level = drawn_member(draw, field), draw.choice((0, 1, 2, 5, 11))
                shift = drawn_member(draw, field)
                for k in (0, 1, 3, 7, 12):
                    other = ring.added(one, ring.product(field, ring.power(field, top_letter(field), k), shift))
                    self.assertIs(are_near(field, one, other, level), ring.near(field, one, other, level))
            self.assertIs(are_near(field, one, one, 66), True)
            self.assertIs(are_near(field, one, member_sum(field, one, whole_member(field, 1)), 0), True)
            self.assertIs(are_near(field, one, member_sum(field, one, whole_member(field, 1)), 1), False)

    def test_near_members(self):
        draw = drawer(5)
        for field in FIELDS:
            e, p = field.step_size, field.prime
            for member in (drawn_member(draw, field, 10 ** 20), long_member(field), long_member(field, -BIG + 50)):
                for level in (0, 1, 2, 3, 4, 5, 6, 7, 20, 65, 66):
                    told = near_member(field, member, level)
                    self.assertTrue(ring.near(field, told, member, level))
                    self.assertEqual(near_member(field, told, level), told)
                    for j, row in enumerate(told):
                        k = min(k for k in range(70) if e * k + j >= level)
                        self.assertTrue(all(0 <= number < p ** k for number in row))
            self.assertEqual(near_member(field, long_member(field), 0), whole_member(field, 0))

    def test_digits(self):
        draw = drawer(6)
        for field in FIELDS:
            for member in (drawn_member(draw, field, 10 ** 9), long_member(field), long_member(field, 3 - BIG)):
                row = digits_of(field, member, 66)
                self.assertEqual(len(row), 66)
                total, power = whole_member(field, 0), whole_member(field, 1)
                for k, digit in enumerate(row):
                    self.assertEqual(len(digit), field.plain_size)
                    self.assertTrue(all(0 <= number < field.prime for number in digit))
                    if k in (0, 1, 2, 3, 17, 65):
                        self.assertEqual(digits_of(field, member, k), row[:k])
                        self.assertTrue(ring.near(field, total, member, k))
                    low_member = (digit,) + ((0,) * field.plain_size,) * (field.step_size - 1)
                    total = ring.added(total, ring.product(field, low_member, power))
                    power = ring.product(field, power, top_letter(field))
                self.assertTrue(ring.near(field, total, member, 66))

    def test_members_of_digits(self):
        draw = drawer(7)
        for field in FIELDS:
            self.assertEqual(member_of_digits(field, ()), whole_member(field, 0))
            for many in (1, 2, 3, 8, 66):
                digits = tuple(drawn_digit(draw, field) for _ in range(many))
                try:
                    member = member_of_digits(field, digits)
                except TooMany as caught:
                    self.assertEqual((caught.limit, many), (60, 66))
                    continue
                self.assertEqual(digits_of(field, member, many), digits)
        self.assertEqual(member_of_digits(Field.plain(3, 1), ((2,), (0,), (1,))), ((11,),))
        self.assertEqual(member_of_digits(A, ((1,), (0,), (1,), (1,))), ((3,), (0,)))
        self.assertEqual(member_of_digits(Field.plain(7, 1), ((6,),) * 66), ((7 ** 66 - 1,),))

    def test_each_row_tells_another_member(self):
        for field in (A, D, C, BOTH[0]):
            draw = drawer(8)
            rows = {}
            for _ in range(60):
                digits = tuple(drawn_digit(draw, field) for _ in range(3))
                rows.setdefault(near_member(field, member_of_digits(field, digits), 3), digits)
                self.assertEqual(rows[near_member(field, member_of_digits(field, digits), 3)], digits)

    def test_too_long_members_of_digits(self):
        field = Field.of(2, (2 * (5 * 10 ** 59 - 1), 1))
        self.assertEqual(member_of_digits(field, ((1,), (1,))), ((1 - 2 * (5 * 10 ** 59 - 1),),))
        self.assert_too_many(60, member_of_digits, field, ((0,), (0,), (1,)))
        edge = Field.of(7, (1 - BIG, 1))
        self.assertEqual(member_of_digits(edge, ((0,), (1,))), ((BIG - 1,),))
        self.assert_too_many(60, member_of_digits, edge, ((1,), (1,)))

    def test_residues_of_digits(self):
        for field in FIELDS:
            p, e = field.prime, field.step_size
            power = ring.power(field, top_letter(field), e)
            first = field.top[0]
            # r ** e and p times the residue of -a0 / p agree to the level e + 1.
            told = (tuple(p * (-number // p % p) for number in first),) + ((0,) * field.plain_size,) * (e - 1)
            self.assertTrue(ring.near(field, power, told, e + 1))
            member = ring.added(ring.whole(field, 3), ring.product(field, top_letter(field), long_member(field, 10 ** 30)))
            self.assertEqual(digits_of(field, member, 1), ((3 % p,) + (0,) * (field.plain_size - 1),))

    def test_wrong_digits(self):
        wrong = NOTHING_LIKE_IT + (
            ((2,),), ((-1,),), ((1, 0),), ((),), (1,), ((True,),), ((1,), [1]), [(1,)], ((1,),) * 67, ((1,), None),
            (((1,),),), ((1,), ("0",)), ((BIG,),))
        for digits in wrong:
            self.assert_raises_just(InvalidOperation, member_of_digits, A, digits)
        for digits in (((1,),), ((1, 2),), ((1, 0, 0),), ((0, -1),), ((0, 1), (1,))):
            self.assert_raises_just(InvalidOperation, member_of_digits, D, digits)


class NormsTest(unittest.TestCase, ErrorCase):

    def test_by_a_table(self):
        draw = drawer(9)
        for field in FIELDS:
            often = 1 if field.degree > 4 else 4
            for member in [drawn_member(draw, field, 6) for _ in range(often)] + [long_member(field)]:
                rows = ring.table(field, member)
                self.assertEqual(norm_of(field, member), ring.fast_determinant(rows))
                self.assertEqual(trace_of(field, member), sum(rows[k][k] for k in range(field.degree)))
                polynomial = polynomial_of(field, member)
                self.assertEqual((len(polynomial), polynomial[-1]), (field.degree + 1, 1))
                for x in range(field.degree + 1):
                    table = [[(x if k == m else 0) - number for m, number in enumerate(row)]
                             for k, row in enumerate(rows)]
                    told = sum(number * x ** k for k, number in enumerate(polynomial))
                    self.assertEqual(told, ring.fast_determinant(table))

    def test_by_permutations(self):
        draw = drawer(10)
        for field in (A, B, C, D, BOTH[0], BOTH[3]):
            for _ in range(3):
                member = drawn_member(draw, field)
                self.assertEqual(norm_of(field, member), ring.determinant(ring.table(field, member)))

    def test_values_and_products(self):
        draw = drawer(11)
        for field in FIELDS:
            for _ in range(5):
                one, other = drawn_member(draw, field), drawn_member(draw, field)
                whole = norm_of(field, member_product(field, one, other))
                self.assertEqual(whole, norm_of(field, one) * norm_of(field, other))
                value = member_value(field, one)
                told = exponent(field.prime, norm_of(field, one))
                self.assertEqual(told, None if value is None else field.plain_size * value)

    def test_member_is_a_root(self):
        draw = drawer(12)
        for field in FIELDS:
            member = drawn_member(draw, field, 5)
            total = ring.whole(field, 0)
            for number in polynomial_of(field, member)[::-1]:
                total = ring.added(ring.product(field, total, member), ring.whole(field, number))
            self.assertEqual(total, ring.whole(field, 0))

    def test_integers(self):
        for field in FIELDS:
            n = field.degree
            self.assertEqual(norm_of(field, whole_member(field, -3)), (-3) ** n)
            self.assertEqual(trace_of(field, whole_member(field, 5)), 5 * n)
            self.assertEqual(norm_of(field, whole_member(field, 0)), 0)
            self.assertEqual(polynomial_of(field, whole_member(field, 0)), (0,) * n + (1,))
            self.assertEqual(norm_of(field, whole_member(field, BIG - 1)), (BIG - 1) ** n)
        self.assertEqual(polynomial_of(A, whole_member(A, 3)), (9, -6, 1))

    def test_a_prime_in_a_norm(self):
        self.assertEqual(norm_of(D, whole_member(D, 2)), 4)
        self.assertEqual(polynomial_of(A, ((0,), (1,))), (2, 2, 1))
        self.assertEqual(polynomial_of(A, ((1,), (0,))), polynomial_of(B, ((1,), (0,))))

    def test_equal_again(self):
        for function, args in ((norm_of, (A, ONE)), (polynomial_of, (C, ((1,), (2,), (3,)))), (digits_of, (D, ((5, -1),), 9))):
            self.assertEqual(function(*args), function(*args))


class WrongInputsTest(unittest.TestCase, ErrorCase):

    FIELD = (InvalidField, WRONG_FIELDS)
    MEMBER = (InvalidMember, WRONG_MEMBERS)
    LEVEL = (InvalidNumber, WRONG_LEVELS)

    def test_all_functions(self):
        for function in (low_letter, top_letter):
            self.check_parameters(function, (A,), (self.FIELD,))
        self.check_parameters(whole_member, (A, -5), (self.FIELD, (InvalidNumber, WRONG_WHOLES)))
        for function in (member_sum, member_difference, member_product):
            self.check_parameters(function, (A, ONE, TWO), (self.FIELD, self.MEMBER, self.MEMBER))
        exponents = NOTHING_LIKE_IT + (-1, 41, BIG, (1,), (1, 1))
        self.check_parameters(member_power, (A, ONE, 40), (self.FIELD, self.MEMBER, (InvalidNumber, exponents)))
        for function in (member_value, norm_of, trace_of, polynomial_of):
            self.check_parameters(function, (A, ONE), (self.FIELD, self.MEMBER))
        self.check_parameters(are_near, (A, ONE, TWO, 66), (self.FIELD, self.MEMBER, self.MEMBER, self.LEVEL))
        for function in (near_member, digits_of):
            self.check_parameters(function, (A, ONE, 66), (self.FIELD, self.MEMBER, self.LEVEL))
        wrong = (InvalidOperation, NOTHING_LIKE_IT)
        self.check_parameters(member_of_digits, (A, ((1,),)), (self.FIELD, wrong))
        self.check_parameters(is_member, (A, ONE), (self.FIELD, None))

    def test_members_of_other_sizes(self):
        members = {(field.step_size, field.plain_size): whole_member(field, 1) for field in FIELDS}
        for field in (A, C, D, BOTH[0], Field.plain(5, 1)):
            for sizes, member in members.items():
                fits = sizes == (field.step_size, field.plain_size)
                self.assertIs(is_member(field, member), fits)
                if not fits:
                    one = whole_member(field, 1)
                    for function in (member_value, norm_of, trace_of, polynomial_of):
                        self.assert_raises_just(InvalidMember, function, field, member)
                    for function in (near_member, digits_of, member_power):
                        self.assert_raises_just(InvalidMember, function, field, member, 1)
                    for function in (member_sum, member_difference, member_product):
                        self.assert_raises_just(InvalidMember, function, field, member, one)
                        self.assert_raises_just(InvalidMember, function, field, one, member)
                    self.assert_raises_just(InvalidMember, are_near, field, one, member, 1)

    def test_then_comes_last(self):
        longest = long_member(A)
        self.assert_refused(InvalidNumber, 41, member_power, (A, longest, 41))
        self.assert_raises_just(InvalidMember, member_sum, A, longest, ((1,),))

    def test_judge_takes_all_values(self):
        junk = tuple(value for value in WRONG_MEMBERS if value not in
                     (((BIG,), (0,)), ((0,), (-BIG,)), ((10 ** 219,), (1,))))
        self.check_judge(is_member, (A,), junk)
        for member in (((BIG,), (0,)), ((10 ** 219,), (-10 ** 219,)), ONE):
            self.assertIs(is_member(A, member), True)
        self.assertIs(is_member(D, ((1, 2),)), True)

    def test_nothing_changes(self):
        before = (A.prime, A.low, A.top)
        for function in (member_sum, member_product):
            function(A, ONE, TWO)
        polynomial_of(A, ONE)
        self.assertEqual((A.prime, A.low, A.top), before)
        self.assertEqual((PLAIN[0].low, STEPS[0] == A), ((0, 1), True))


if __name__ == "__main__":
    unittest.main()
