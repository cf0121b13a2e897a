"""Stage 6: top polynomials of one field, and steps without p."""

import unittest
from itertools import product
from math import gcd

from tests import ring
from tests.samples import FIELDS, PLAIN, A, C, D, drawn_digit, drawn_member
from tests.test_fields import ONE, TWO, WRONG_FIELDS, WRONG_MEMBERS, long_member
from tests.test_plain import all_digits, rest_product, value_near, with_zeros
from tests.test_rests import irreducible_ones
from tests.tools import BIG, NOTHING_LIKE_IT, PRIMES, WRONG_LEVELS, WRONG_PRIMES, ErrorCase, drawer
from wildsteps.errors import InvalidField, InvalidMember, InvalidNumber, InvalidOperation
from wildsteps.fields import tops
from wildsteps.fields.fields import Field, digits_of, low_letter, member_value, norm_of, top_letter
from wildsteps.fields.plain import digit_log, least_maker
from wildsteps.fields.tops import digits_by, field_by, plain_polynomial, tame_field, tame_kind, tame_kinds

FIELD = (InvalidField, WRONG_FIELDS)
MEMBER = (InvalidMember, WRONG_MEMBERS)
SMALL = [field for field in FIELDS if field.step_size <= 4]
SIZES = [(p, f, e) for p in PRIMES for f in range(1, 7) for e in range(1, 7) if e % p and e * f <= 6 and p ** f <= 64]


def member_of_value_one(draw, field, size=3):
    """r times a unit: any member with a first digit other than 0."""
    while True:
        unit = drawn_member(draw, field, size)
        if member_value(field, unit) == 0:
            return ring.product(field, top_letter(field), unit)


def orbit(prime, number, modulus):
    return {number * prime ** k % modulus for k in range(20)}


class PolynomialsTest(unittest.TestCase, ErrorCase):

    def test_example_of_the_document(self):
        root = Field.of(2, (2, 2, 1))
        told = [plain_polynomial(root, ((1,), (1,))), plain_polynomial(root, ((2,), (1,))),
                field_by(root, ((2,), (1,))).top, digits_by(root, ((2,), (1,)), ((2,), (0,)), 4)]
        self.assertEqual(told, [((1,), (0,), (1,)), ((2,), (-2,), (1,)), ((2,), (-2,), (1,)),
                                ((0,), (0,), (1,), (1,))])
        self.assertEqual(tops.MOST_TAME, 6)

    def test_by_a_determinant(self):
        draw = drawer(1)
        for field in SMALL:
            for member in (drawn_member(draw, field), long_member(field), low_letter(field), top_letter(field)):
                told = plain_polynomial(field, member)
                self.assertEqual(told, ring.plain_polynomial(field, member))
                self.assertEqual(told[-1], (1,) + (0,) * (field.plain_size - 1))

    def test_member_is_a_root(self):
        draw = drawer(2)
        for field in FIELDS:
            for member in (drawn_member(draw, field), long_member(field)):
                total = ring.whole(field, 0)
                polynomial = plain_polynomial(field, member)
                self.assertEqual(len(polynomial), field.step_size + 1)
                for number in polynomial[::-1]:
                    total = ring.added(ring.product(field, total, member), with_zeros(field, number))
                self.assertEqual(total, ring.whole(field, 0))

    def test_norm_of_the_first_number(self):
        draw = drawer(3)
        for field in FIELDS:
            member = drawn_member(draw, field)
            first = plain_polynomial(field, member)[0]
            # The norm of a low member over the numbers is that from the field without steps.
            f = field.plain_size
            low = Field(field.prime, field.low, ((field.prime,) + (0,) * (f - 1), (1,) + (0,) * (f - 1)))
            if all(abs(number) < BIG for number in first):
                self.assertEqual(abs(norm_of(low, (first,))), abs(norm_of(field, member)))

    def test_letter_has_the_top_polynomial(self):
        for field in FIELDS:
            self.assertEqual(plain_polynomial(field, top_letter(field)), field.top)
            self.assertEqual(field_by(field, top_letter(field)), field)

    def test_two_members_with_one_polynomial(self):
        one, other = top_letter(A), ((-2,), (-1,))
        self.assertEqual(member_value(A, other), 1)
        self.assertEqual(plain_polynomial(A, one), plain_polynomial(A, other))
        self.assertEqual(field_by(A, other), A)

    def test_longer_integers(self):
        told = plain_polynomial(C, long_member(C))
        self.assertGreater(max(abs(row[0]) for row in told), BIG)
        self.assertEqual(told, ring.plain_polynomial(C, long_member(C)))

    def test_wrong_inputs(self):
        self.check_parameters(plain_polynomial, (A, ONE), (FIELD, MEMBER))
        self.check_parameters(field_by, (A, ((2,), (1,))), (FIELD, MEMBER))


class FieldsByMembersTest(unittest.TestCase, ErrorCase):

    def test_fields(self):
        draw = drawer(4)
        for field in FIELDS:
            for _ in range(4):
                member = member_of_value_one(draw, field)
                told = field_by(field, member)
                self.assertIsInstance(told, Field)
                self.assertEqual((told.prime, told.low), (field.prime, field.low))
                self.assertEqual(told.top, plain_polynomial(field, member))

    def test_other_values(self):
        for field in FIELDS:
            wrong = [ring.whole(field, 0), ring.whole(field, 1), ring.power(field, top_letter(field), 2)]
            if field.step_size > 1:
                wrong.append(ring.whole(field, field.prime))
            for member in wrong:
                self.assert_raises_just(InvalidOperation, field_by, field, member)
                self.assert_raises_just(InvalidOperation, digits_by, field, member, member, 3)

    def test_too_long_polynomials(self):
        self.assert_too_many(60, field_by, A, ((10 ** 31,), (1,)))
        self.assert_too_many(60, field_by, C, ((3 * 10 ** 20,), (1,), (0,)))
        self.assertEqual(field_by(Field.plain(7, 1), ((BIG - 1,),)).top, ((1 - BIG,), (1,)))
        self.assertEqual(field_by(A, ((10 ** 29,), (1,))).top[1], (2 - 2 * 10 ** 29,))

    def test_members_of_other_values_make_no_tops(self):
        self.assertEqual(plain_polynomial(A, ((2,), (2,)))[0], (4,))

    def test_digits(self):
        draw = drawer(5)
        for field in FIELDS:
            for member in (member_of_value_one(draw, field), top_letter(field)):
                further = drawn_member(draw, field)
                row = digits_by(field, member, further, 66)
                self.assertEqual(len(row), 66)
                total, power = ring.whole(field, 0), ring.whole(field, 1)
                for k, digit in enumerate(row):
                    self.assertEqual(len(digit), field.plain_size)
                    self.assertTrue(all(0 <= number < field.prime for number in digit))
                    if k in (0, 1, 2, 5, 30, 65):
                        self.assertEqual(digits_by(field, member, further, k), row[:k])
                        self.assertTrue(ring.near(field, total, further, k))
                    total = ring.added(total, ring.product(field, with_zeros(field, digit), power))
                    power = ring.product(field, power, member)
                self.assertTrue(ring.near(field, total, further, 66))
            self.assertEqual(digits_by(field, top_letter(field), further, 30), digits_of(field, further, 30))

    def test_digits_of_sums(self):
        draw = drawer(6)
        for field in FIELDS:
            member = member_of_value_one(draw, field, 1)
            digits = tuple(drawn_digit(draw, field) for _ in range(7))
            total = ring.whole(field, 0)
            for digit in digits[::-1]:
                total = ring.added(ring.product(field, total, member), with_zeros(field, digit))
            self.assertEqual(digits_by(field, member, total, 7), digits)

    def test_wrong_inputs(self):
        level = (InvalidNumber, WRONG_LEVELS)
        self.check_parameters(digits_by, (A, ((2,), (1,)), TWO, 66), (FIELD, MEMBER, MEMBER, level))
        self.assert_raises_just(InvalidMember, digits_by, A, ONE, ((1,),), 67)
        self.assert_refused(InvalidNumber, 67, digits_by, (A, ONE, TWO, 67))
        self.assert_raises_just(InvalidOperation, digits_by, A, ONE, TWO, 66)


class TameTest(unittest.TestCase, ErrorCase):

    def test_kinds(self):
        for p, f, e in SIZES:
            g = gcd(e, p ** f - 1)
            told = tuple(sorted({min(orbit(p, k, g)) for k in range(g)}))
            self.assertEqual(tame_kinds(p, f, e), told)
        self.assertEqual(tame_kinds(5, 2, 3), (0, 1))
        self.assertEqual(tame_kinds(7, 1, 6), (0, 1, 2, 3, 4, 5))
        self.assertEqual(tame_kinds(2, 1, 1), (0,))

    def test_fields(self):
        for p, f, e in SIZES:
            g, plain = gcd(e, p ** f - 1), Field.plain(p, f)
            power = (1,) + (0,) * (f - 1)
            for kind in range(min(p ** f - 1, 63)):
                field = tame_field(p, f, e, kind)
                self.assertEqual((field.prime, field.low), (p, plain.low))
                empty = (0,) * f
                first = tuple(-p * number for number in power)
                self.assertEqual(field.top, (first,) + (empty,) * (e - 1) + ((1,) + empty[1:],))
                self.assertEqual(tame_kind(field), min(orbit(p, kind % g, g)))
                self.assertIn(tame_kind(field), tame_kinds(p, f, e))
                power = rest_product(plain, power, least_maker(plain))

    def test_each_kind_comes_and_no_other(self):
        for p, f, e in SIZES:
            found = {tame_kind(tame_field(p, f, e, kind)) for kind in range(p ** f - 1)}
            self.assertEqual(tuple(sorted(found)), tame_kinds(p, f, e))

    def test_alike_fields_have_one_kind(self):
        draw = drawer(7)
        for p, f, e in SIZES:
            for kind in tame_kinds(p, f, e):
                field = tame_field(p, f, e, kind)
                self.assertEqual(tame_kind(field), kind)
                for _ in range(3):
                    other = field_by(field, member_of_value_one(draw, field))
                    self.assertEqual(tame_kind(other), kind)
                    r, unit = top_letter(other), ring.whole(other, draw.randint(1, p - 1))
                    again = field_by(other, ring.product(other, r, ring.added(unit, r)))
                    self.assertEqual(tame_kind(again), kind)

    def kinds_by_all_maps(self, field):
        """The least rest for each of the maps of the residues to those of the plain field."""
        p, f, e = field.prime, field.plain_size, field.step_size
        plain, g = Field.plain(p, f), gcd(e, p ** f - 1)
        digit = tuple(-number // p % p for number in field.top[0])
        found = set()
        for root in all_digits(plain):
            if any(number % p for number in value_near(plain, field.low, with_zeros(plain, root), p)[0]):
                continue
            image = (0,) * f
            for number in digit[::-1]:
                image = rest_product(plain, image, root)
                image = ((image[0] + number) % p,) + image[1:]
            found.add(min(orbit(p, digit_log(plain, image) % g, g)))
        return found

    def test_other_low_polynomials(self):
        draw = drawer(8)
        for p, f, e in SIZES:
            lows = [low for low in irreducible_ones(p, f) if len(low) == f + 1]
            for low in draw.sample(lows, min(len(lows), 3)):
                low = tuple(number + p * draw.randint(-3, 3) for number in low[:-1]) + (1,)
                for _ in range(2):
                    unit = draw.choice([digit for digit in product(range(p), repeat=f) if any(digit)])
                    first = tuple(p * number + p * p * draw.randint(-2, 2) for number in unit)
                    middle = [tuple(p * draw.randint(-2, 2) for _ in range(f)) for _ in range(e - 1)]
                    field = Field(p, low, (first, *middle, (1,) + (0,) * (f - 1)))
                    self.assertEqual({tame_kind(field)}, self.kinds_by_all_maps(field))

    def test_step_sizes_that_the_prime_divides(self):
        for field in FIELDS:
            if field.step_size % field.prime == 0:
                self.assert_raises_just(InvalidOperation, tame_kind, field)
            else:
                self.assertIn(tame_kind(field), tame_kinds(field.prime, field.plain_size, field.step_size))
        for field in PLAIN:
            self.assertEqual(tame_kind(field), 0)
        self.assertEqual(tame_kind(Field.of(7, (-7, 0, 1))), 0)
        self.assertEqual(tame_kind(Field.of(7, (7, 0, 1))), 1)

    def test_limits(self):
        for args in ((2, 6, 3), (5, 2, 4), (7, 3, 3), (3, 4, 2), (7, 2, 4)):
            self.assert_too_many(6, tame_kinds, *args)
            self.assert_too_many(6, tame_field, *args, 62)
        for args in ((3, 4, 1), (5, 3, 1), (5, 3, 2), (7, 3, 2), (3, 6, 1)):
            self.assert_too_many(64, tame_kinds, *args)
            self.assert_too_many(64, tame_field, *args, 62)
        self.assertEqual(tame_field(2, 6, 1, 62).residues, 64)
        for p, f, e in SIZES:
            for kind in (p ** f - 1, p ** f, 62):
                if p ** f - 1 <= kind <= 62:
                    self.assert_raises_just(InvalidOperation, tame_field, p, f, e, kind)
        self.assert_raises_just(InvalidOperation, tame_field, 2, 1, 1, 1)
        self.assert_refused(InvalidNumber, 63, tame_field, (2, 6, 1, 63))
        self.assert_refused(InvalidNumber, 63, tame_field, (7, 3, 3, 63))

    def test_wrong_inputs(self):
        sizes = (InvalidNumber, NOTHING_LIKE_IT + (0, -1, 7, BIG, (1,), (1, 1)))
        steps = (InvalidNumber, NOTHING_LIKE_IT + (0, -1, 7, BIG, (1,), (1, 1), 3, 6))
        kinds = (InvalidNumber, NOTHING_LIKE_IT + (-1, 63, BIG, (1,), (1, 1)))
        primes = (InvalidNumber, WRONG_PRIMES)
        self.check_parameters(tame_kind, (D,), (FIELD,))
        self.check_parameters(tame_kinds, (3, 2, 2), (primes, sizes, steps))
        self.check_parameters(tame_field, (3, 2, 2, 7), (primes, sizes, steps, kinds))
        for p in PRIMES:
            for e in range(1, 7):
                if e % p == 0:
                    self.assert_refused(InvalidNumber, e, tame_kinds, (p, 6, e))
                    self.assert_refused(InvalidNumber, e, tame_field, (p, 6, e, None))


if __name__ == "__main__":
    unittest.main()
