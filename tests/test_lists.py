"""Stage 12: lists of fields."""

import unittest
from fractions import Fraction
from time import perf_counter

from tests.samples import BOTH, PLAIN, STEPS, A, B, C, D
from tests.test_exponents import ore_by_words
from tests.test_fields import WRONG_FIELDS
from tests.test_maps import alike_ones
from tests.tools import BIG, NOTHING_LIKE_IT, PRIMES, WRONG_PRIMES, ErrorCase, drawer
from wildsteps.errors import InvalidField, InvalidNumber, InvalidOperation
from wildsteps.fields.fields import Field
from wildsteps.fields.tops import tame_field, tame_kinds
from wildsteps.roots.maps import are_alike
from wildsteps.selfs.selfs import self_number
from wildsteps.steps import lists
from wildsteps.steps.exponents import krasner_count, step_number
from wildsteps.steps.lists import are_all_fields, fields_of, kind_index, kinds_by_step, kinds_number, kinds_of_degree

PRIME = (InvalidNumber, WRONG_PRIMES)
SIZE = (InvalidNumber, NOTHING_LIKE_IT + (0, -1, 7, BIG, (1,), (1, 1), 10 ** 219))
ALL_SIZES = [(p, f, e) for p in PRIMES for f in range(1, 5) for e in range(1, 5) if f * e <= 4]
TOLD_SIZES = [(p, f, e) for p, f, e in ALL_SIZES if p ** f <= 64]
LISTS = {sizes: fields_of(*sizes) for sizes in TOLD_SIZES}


class ListsTest(unittest.TestCase, ErrorCase):

    def test_constants_and_examples(self):
        self.assertEqual(lists.MOST_LISTED, 4)
        self.assertEqual(
            [kinds_number(2, 1, 2), kinds_by_step(2, 1, 2), kinds_of_degree(2, 2), kinds_of_degree(2, 3),
             kinds_by_step(3, 1, 3), kinds_of_degree(3, 3)], [6, {1: 2, 2: 4}, 7, 2, {1: 2, 2: 4, 3: 3}, 10])

    def test_complete_tuples(self):
        for (p, f, e), told in LISTS.items():
            self.assertIsInstance(told, tuple)
            self.assertTrue(all((field.prime, field.plain_size, field.step_size) == (p, f, e) for field in told))
            self.assertTrue(all(abs(n) < BIG for field in told for row in field.top for n in row))
            steps = [step_number(field) for field in told]
            self.assertEqual(steps, sorted(steps))
            self.assertEqual(tuple(sorted(set(steps))), ore_by_words(p, e))
            for k, one in enumerate(told):
                for other in told[:k]:
                    self.assertFalse(are_alike(one, other))
            total = sum(Fraction(1, self_number(field) * field.residues ** step_number(field)) for field in told)
            self.assertEqual(total, Fraction(1, f))
            self.assertIs(are_all_fields(p, f, e, told), True)
            for j in set(steps):
                self.assertTrue(1 <= steps.count(j) <= krasner_count(p, f, e, j))

    def test_each_field_is_alike_to_one(self):
        draw = drawer(1)
        for (p, f, e), told in LISTS.items():
            for field in [one for one in STEPS + BOTH + PLAIN if (one.prime, one.plain_size, one.step_size) == (p, f, e)]:
                self.assertEqual([are_alike(field, other) for other in told].count(True), 1)
                self.assertTrue(are_alike(field, told[kind_index(field, told)]))
            for _ in range(6):
                first = tuple(p * draw.randint(-3, 3) for _ in range(f - 1)) + (p * draw.choice((1, -1, 1 + p, 1 - p)),)
                rows = [tuple(p * draw.randint(-5, 5) for _ in range(f)) for _ in range(e - 1)]
                field = Field(p, Field.plain(p, f).low, (first, *rows, (1,) + (0,) * (f - 1)))
                self.assertEqual([are_alike(field, other) for other in told].count(True), 1)

    def test_other_complete_tuples(self):
        draw = drawer(2)
        for (p, f, e), told in LISTS.items():
            others = [draw.choice(alike_ones(draw, field)) for field in told]
            draw.shuffle(others)
            others = tuple(others)
            self.assertIs(are_all_fields(p, f, e, others), True)
            self.assertIs(are_all_fields(p, f, e, others[1:]), False)
            self.assertIs(are_all_fields(p, f, e, others + others[:1]), False)
            self.assertIs(are_all_fields(p, f, e, list(others)), False)
            self.assertIs(are_all_fields(p, f, e, ()), False)
            if len(told) > 1:
                self.assertIs(are_all_fields(p, f, e, others[1:] + others[1:2]), False)
                self.assertIs(are_all_fields(p, f, e, others[1:] + (told[kind_index(others[1], told)],)), False)
            for wrong in (None, 1, "x", told, [others[0]], Field.plain(p, 2 if f == 1 else 1), Field.plain(3 if p == 2 else 2, 2)):
                self.assertTrue(not isinstance(wrong, Field) or (wrong.prime, wrong.plain_size) != (p, f))
                self.assertIs(are_all_fields(p, f, e, others[1:] + (wrong,)), False)
                self.assertIs(are_all_fields(p, f, e, others + (wrong,)), False)
            self.check_judge(are_all_fields, (p, f, e), [(A, 1), A, {0: A}])

    def test_one_of_equal_weight_twice(self):
        # The sum is right, but one kind comes twice and another one not at all.
        told = LISTS[2, 1, 2]
        at = [k for k, field in enumerate(told) if step_number(field) == 2]
        twice = tuple(told[at[0]] if k == at[1] else field for k, field in enumerate(told))
        self.assertIs(are_all_fields(2, 1, 2, twice), False)
        other = alike_ones(drawer(3), told[at[0]])[0]
        twice = tuple(other if k == at[1] else field for k, field in enumerate(told))
        self.assertIs(are_all_fields(2, 1, 2, twice), False)

    def test_numbers_of_kinds(self):
        for p, f, e in ALL_SIZES:
            by_step = kinds_by_step(p, f, e)
            self.assertEqual(list(by_step), sorted(by_step))
            self.assertEqual(kinds_number(p, f, e), sum(by_step.values()))
            if (p, f, e) in LISTS:
                steps = [step_number(field) for field in LISTS[p, f, e]]
                self.assertEqual(by_step, {j: steps.count(j) for j in sorted(set(steps))})
            else:
                self.assertEqual((e, by_step), (1, {0: 1}))
            if e % p:
                kinds = tame_kinds(p, f, e) if p ** f <= 64 else (0,)
                self.assertEqual(kinds_number(p, f, e), len(kinds))
                if p ** f <= 64:
                    self.assertIs(are_all_fields(p, f, e, tuple(tame_field(p, f, e, kind) for kind in kinds)), True)
        numbers = [[kinds_of_degree(p, degree) for degree in range(1, 5)] for p in PRIMES]
        self.assertEqual(numbers, [[1, 7, 2, 59], [1, 3, 10, 5], [1, 3, 2, 7], [1, 3, 4, 5]])
        for p in PRIMES:
            for degree in range(1, 5):
                told = sum(kinds_number(p, f, degree // f) for f in range(1, degree + 1) if degree % f == 0)
                self.assertEqual(kinds_of_degree(p, degree), told)

    def test_tops_of_two_numbers_alone(self):
        # Not each kind has a top polynomial x ** e - a: 2, sizes 1 and 2, step number 1.
        found = [field for field in LISTS[2, 1, 2]
                 if any(are_alike(field, Field.of(2, (-a, 0, 1))) for a in (2, -2, 6, -6, 10, -10, 14, -14))]
        self.assertEqual({step_number(field) for field in found}, {2})

    def test_limits(self):
        for function in (fields_of, kinds_number, kinds_by_step):
            for p in PRIMES:
                for f, e in ((1, 5), (5, 1), (2, 3), (3, 2), (6, 6), (4, 2), (2, 4), (1, 6)):
                    self.assert_too_many(4, function, p, f, e)
                    self.assert_too_many(4, are_all_fields, p, f, e, ())
        for p, f in ((3, 4), (5, 3), (5, 4), (7, 3), (7, 4)):
            self.assert_too_many(64, fields_of, p, f, 1)
            self.assert_too_many(64, are_all_fields, p, f, 1, ())
            self.assertEqual((kinds_number(p, f, 1), kinds_by_step(p, f, 1)), (1, {0: 1}))

    def test_wrong_inputs(self):
        for function in (fields_of, kinds_number, kinds_by_step):
            self.check_parameters(function, (2, 1, 2), (PRIME, SIZE, SIZE))
            self.assert_refused(InvalidNumber, 7, function, (7, 6, 7))
        self.check_parameters(are_all_fields, (2, 1, 2, None), (PRIME, SIZE, SIZE, None))
        degrees = (InvalidNumber, NOTHING_LIKE_IT + (0, 5, -1, BIG, (1,), (2, 1)))
        self.check_parameters(kinds_of_degree, (3, 4), (PRIME, degrees))
        self.assertEqual(fields_of(2, 1, 2), LISTS[2, 1, 2])

    def test_times(self):
        for sizes in ((2, 1, 4), (2, 2, 2), (3, 1, 3)):
            start = perf_counter()
            self.assertIs(are_all_fields(*sizes, fields_of(*sizes)), True)
            self.assertLess(perf_counter() - start, 10)


class IndexTest(unittest.TestCase, ErrorCase):

    def test_indices(self):
        draw = drawer(4)
        for told in LISTS.values():
            for k, field in enumerate(told):
                if k < 8:
                    other = draw.choice(alike_ones(draw, field))
                    self.assertEqual(kind_index(field, told), k)
                    self.assertEqual(kind_index(other, told), k)
                    self.assertIsNone(kind_index(other, told[:k] + told[k + 1:]))
        self.assertIsNone(kind_index(A, ()))
        self.assertIsNone(kind_index(A, (B, C, D)))
        self.assertEqual(kind_index(A, (B, C, D, Field.of(2, (2 + 2 ** 9, 2, 1)), STEPS[4])), 3)

    def test_other_primes_and_degrees(self):
        lot = (B, C, D, STEPS[4], PLAIN[0], PLAIN[6], PLAIN[9], PLAIN[11])
        for k, field in enumerate(lot):
            self.assertEqual(kind_index(field, lot), k)
        self.assertIsNone(kind_index(A, lot))

    def test_errors(self):
        wrong = tuple(value for value in WRONG_FIELDS if value != (A,)) + (
            A, (A, None), (A, 1), (None,), [A, B], (A,) * 65, ((A,),), {0: A})
        self.check_parameters(kind_index, (A, (A, B)), ((InvalidField, WRONG_FIELDS), (InvalidField, wrong)))
        for fields in ((A, A), (B, A, C, Field.of(2, (2, 2, 1))), (C, Field.of(3, (-3 + 81, 0, 0, 1))), (D,) * 64):
            self.assert_raises_just(InvalidOperation, kind_index, A, fields)
            self.assert_raises_just(InvalidField, kind_index, None, fields)


if __name__ == "__main__":
    unittest.main()
