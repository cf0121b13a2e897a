"""Stage 11: exponents, counts, and one sum."""

import unittest
from fractions import Fraction

from tests import over, ring
from tests.samples import BOTH, PLAIN, STEPS, A, B, C, D
from tests.test_fields import WRONG_FIELDS
from tests.test_maps import MORE, alike_ones
from tests.tools import BIG, NOTHING_LIKE_IT, PRIMES, WRONG_PRIMES, ErrorCase, drawer, exponent, fraction_of, ratio_of
from wildsteps.errors import InvalidField, InvalidNumber, InvalidOperation
from wildsteps.fields.fields import Field, low_letter, top_letter
from wildsteps.selfs.selfs import self_number
from wildsteps.steps import exponents
from wildsteps.steps.exponents import closure_count, count_share, different_exponent, discriminant_exponent
from wildsteps.steps.exponents import field_discriminant, is_step_number, krasner_count, like_count, ore_numbers
from wildsteps.steps.exponents import share_sum, step_number
from wildsteps.steps.lists import fields_of

FIELD, PRIME = (InvalidField, WRONG_FIELDS), (InvalidNumber, WRONG_PRIMES)
PLAIN_SIZE = (InvalidNumber, NOTHING_LIKE_IT + (0, -1, 13, BIG, (1,), (1, 1), 10 ** 219))
STEP_SIZE = (InvalidNumber, NOTHING_LIKE_IT + (0, -1, 31, BIG, (1,), (1, 1), 10 ** 219))
LONG = Field.of(2, (2 * (10 ** 59 + 1), 2 * (10 ** 58 + 1), 2, 1))


def ore_by_words(p, e):
    s = exponent(p, e)
    found = []
    for a in range(e * s + 1):
        for b in range(e):
            j = a * e + b
            if (j == e * s) if b == 0 else min(e * exponent(p, b), e * s) <= j <= e * s:
                found.append(j)
    return tuple(sorted(found))


def count_by_words(p, f, e, j):
    a, b, q = j // e, j % e, p ** f
    total = sum(Fraction(e, p ** i) for i in range(1, a + 1))
    assert total.denominator == 1
    if b == 0:
        return e * q ** int(total)
    return e * (q - 1) * q ** (int(total) + (b - 1) // p ** (a + 1))


class ExponentsTest(unittest.TestCase, ErrorCase):

    def test_constants_and_examples(self):
        self.assertEqual((exponents.MOST_PLAIN, exponents.MOST_STEP, exponents.MOST_TOGETHER), (12, 30, 64))
        self.assertEqual(
            [different_exponent(A), step_number(C), discriminant_exponent(C), field_discriminant(A), ore_numbers(2, 4),
             ore_numbers(3, 3), krasner_count(2, 1, 4, 5)], [2, 3, 5, -4, (1, 3, 5, 6, 7, 8), (1, 2, 3), 16])

    def test_exponents_by_values(self):
        for field in MORE:
            top = tuple(over.with_zeros(field, row) for row in field.top)
            slope = ring.value(field, over.value_at(field, over.derivative(top), top_letter(field)))
            j = slope - field.step_size + 1
            self.assertEqual((different_exponent(field), step_number(field)), (slope, j))
            self.assertEqual(discriminant_exponent(field), field.plain_size * slope)
            self.assertGreaterEqual(j, 0)
            self.assertIs(j == 0, field.step_size % field.prime != 0)

    def test_alike_fields_have_one_step_number(self):
        draw = drawer(1)
        for field in MORE:
            for other in alike_ones(draw, field):
                self.assertEqual(step_number(other), step_number(field))

    def test_discriminants_by_traces(self):
        for field in MORE + [LONG]:
            t, r = low_letter(field), top_letter(field)
            members = [ring.product(field, ring.power(field, r, j), ring.power(field, t, i))
                       for j in range(field.step_size) for i in range(field.plain_size)]
            rows = []
            for one in members:
                tables = [ring.table(field, ring.product(field, one, other)) for other in members]
                rows.append([sum(table[k][k] for k in range(field.degree)) for table in tables])
            number = over.integer_determinant(rows)
            self.assertEqual(field_discriminant(field), number)
            self.assertEqual(exponent(field.prime, number), discriminant_exponent(field))
        self.assertGreater(abs(field_discriminant(LONG)), BIG)

    def test_fields_with_one_discriminant_that_are_not_alike(self):
        self.assertEqual(discriminant_exponent(A), discriminant_exponent(B))

    def test_ore_numbers(self):
        for p in PRIMES:
            for e in range(1, 31):
                told = ore_numbers(p, e)
                self.assertEqual(told, ore_by_words(p, e))
                for j in list(range(-2, e * 5)) + [BIG, 10 ** 219]:
                    self.assertIs(is_step_number(p, e, j), j in told)
        self.assertEqual([ore_numbers(2, 1), ore_numbers(3, 2), ore_numbers(2, 2)], [(0,), (0,), (1, 2)])
        # Not each integer up to e s is one.
        self.assertFalse(set(range(1, 9)) <= set(ore_numbers(2, 4)))
        self.check_judge(is_step_number, (2, 4), [0, 2, 4, 9, (1,), "1", [1], 10 ** 219, -1, A])

    def test_ore_numbers_by_trying(self):
        draw = drawer(2)
        for p, f, e in ((2, 1, 2), (2, 1, 4), (2, 2, 2), (2, 1, 6), (3, 1, 3), (3, 1, 6), (3, 2, 3), (5, 1, 5), (2, 3, 2)):
            found = set()
            low = Field.plain(p, f).low
            for _ in range(600):
                first = tuple(p * n for n in over.all_digits(Field.plain(p, f))[draw.randint(1, p ** f - 1)])
                rows = [tuple(p ** draw.randint(1, 4) * draw.randint(-3, 3) for _ in range(f)) for _ in range(e - 1)]
                found.add(step_number(Field(p, low, (first, *rows, (1,) + (0,) * (f - 1)))))
            self.assertEqual(tuple(sorted(found)), ore_numbers(p, e))

    def test_wrong_inputs(self):
        for function in (different_exponent, step_number, discriminant_exponent, field_discriminant, like_count):
            self.check_parameters(function, (A,), (FIELD,))
        self.check_parameters(ore_numbers, (2, 30), (PRIME, STEP_SIZE))
        self.check_parameters(is_step_number, (2, 30, None), (PRIME, STEP_SIZE, None))
        number = (InvalidNumber, NOTHING_LIKE_IT + (0, 2, 4, 9, -1, (1,), (1, 1), (5, 1), BIG, 10 ** 219))
        for function in (krasner_count, count_share):
            self.check_parameters(function, (2, 12, 4, 5), (PRIME, PLAIN_SIZE, STEP_SIZE, number))
        degrees = (InvalidNumber, NOTHING_LIKE_IT + (0, -1, 13, BIG, (1,), (4, 1)))
        self.check_parameters(closure_count, (2, 12), (PRIME, degrees))


class CountsTest(unittest.TestCase, ErrorCase):

    def test_counts_and_shares(self):
        for p in PRIMES:
            for f in (1, 2, 3, 6, 12):
                for e in range(1, 31):
                    total = Fraction(0)
                    for j in ore_numbers(p, e):
                        count = krasner_count(p, f, e, j)
                        self.assertEqual(count, count_by_words(p, f, e, j))
                        share = count_share(p, f, e, j)
                        self.assertEqual(share, ratio_of(Fraction(count, p ** (f * j))))
                        total += fraction_of(share)
                    self.assertEqual(total, e)
        self.assertEqual(krasner_count(7, 12, 30, 0), 30)
        self.assertEqual([krasner_count(2, 1, 2, j) for j in (1, 2)], [2, 4])

    def test_closures(self):
        for p in PRIMES:
            for degree in range(1, 13):
                told = sum(count_by_words(p, f, degree // f, j) for f in range(1, degree + 1) if degree % f == 0
                           for j in ore_by_words(p, degree // f))
                self.assertEqual(closure_count(p, degree), told)
        self.assertEqual([closure_count(2, n) for n in (1, 2, 3, 4)], [1, 7, 4, 107])
        self.assertEqual([closure_count(3, n) for n in (1, 2, 3)], [1, 3, 22])

    def test_closures_by_complete_tuples(self):
        for p, degree in ((2, 1), (2, 2), (2, 3), (2, 4), (3, 2), (3, 3), (5, 2), (7, 2)):
            total = 0
            for f in range(1, degree + 1):
                if degree % f == 0:
                    total += sum(like_count(field) for field in fields_of(p, f, degree // f))
            self.assertEqual(total, closure_count(p, degree))
            # There are not as many kinds as fields.
        self.assertGreater(closure_count(2, 3), len(fields_of(2, 1, 3)) + len(fields_of(2, 3, 1)))

    def test_counts_of_steps_by_complete_tuples(self):
        for p, f, e in ((2, 1, 2), (2, 2, 2), (2, 1, 4), (3, 1, 3)):
            totals = {}
            for field in fields_of(p, f, e):
                j = step_number(field)
                totals[j] = totals.get(j, 0) + like_count(field)
            self.assertEqual(totals, {j: krasner_count(p, f, e, j) for j in ore_numbers(p, e)})

    def test_alike_fields(self):
        for field in MORE:
            self.assertEqual(like_count(field) * self_number(field), field.degree)
        self.assertEqual([like_count(field) for field in (A, C, D)], [1, 3, 1])


class SumTest(unittest.TestCase, ErrorCase):

    def test_sums(self):
        self.assertEqual(share_sum(()), (0, 1))
        for field in MORE:
            one = Fraction(1, self_number(field) * field.residues ** step_number(field))
            for many in (1, 2, 7, 64):
                self.assertEqual(share_sum((field,) * many), ratio_of(one * many))

    def test_complete_tuples(self):
        for p, f, e in ((2, 1, 1), (2, 3, 1), (2, 1, 2), (2, 2, 2), (2, 1, 4), (3, 1, 3), (3, 2, 2), (5, 1, 4), (7, 1, 3)):
            told = fields_of(p, f, e)
            self.assertEqual(share_sum(told), (1, f))
            self.assertEqual(share_sum(told[::-1]), (1, f))
            for at in range(len(told)):
                less = fraction_of(share_sum(told[:at] + told[at + 1:]))
                self.assertLess(less, Fraction(1, f))
                if at > 6:
                    break

    def test_errors(self):
        wrong = tuple(value for value in WRONG_FIELDS if value not in ((A,),)) + (
            A, (A, None), (A, 1), (None,), [A, A], (A,) * 65, ((A,),), {0: A})
        self.check_parameters(share_sum, ((A, B),), ((InvalidField, wrong),))
        for fields in ((A, C), (A, D), (A, A, STEPS[4]), (PLAIN[0], PLAIN[6]), (BOTH[0], STEPS[4]), (D, A) * 32):
            self.assert_raises_just(InvalidOperation, share_sum, fields)
        self.assert_raises_just(InvalidField, share_sum, (A, C) * 33)
        self.assertEqual(share_sum((A,) * 64), (16, 1))


if __name__ == "__main__":
    unittest.main()
