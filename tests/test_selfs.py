"""Stage 10: self maps, whole fields, fields within."""

import unittest
from itertools import combinations
from time import perf_counter

from tests import over, ring
from tests.samples import PLAIN, A, B, C, D, drawn_member
from tests.test_fields import WRONG_FIELDS
from tests.test_maps import CUBE, MORE, ROUND, SIX, SQUARES, three_values
from tests.test_parts import MONIC, value_of_discriminant
from tests.tools import BIG, NOTHING_LIKE_IT, ErrorCase, drawer
from wildsteps.errors import InvalidField, InvalidLot, InvalidPolynomial, Refused
from wildsteps.fields.fields import Field, digits_of, low_letter, polynomial_of, top_letter
from wildsteps.parts.parts import is_unsplit, part_sizes, parts_of
from wildsteps.roots.maps import are_alike, are_all_leads, does_lead, led_member
from wildsteps.roots.roots import are_one_root, near_roots, roots_number
from wildsteps.selfs.selfs import are_self_maps, fixed_maps, fixed_size, is_commuting_field, is_part_polynomial, is_whole
from wildsteps.selfs.selfs import part_polynomial, self_maps, self_number, self_parts, self_table

FIELD = (InvalidField, WRONG_FIELDS)
ZERO = ((0,), (0,))
WRONG_LOTS = NOTHING_LIKE_IT + (
    0, (), (1,), (1, 0), (0, 0), (0, 2), (-1,), (0, 1, 2), (False,), (0, True), (0, None), [0], [0, 1], (0, "1"), {0: 1},
    ((0,),), (BIG,), (0, 10 ** 219), A, (A,))
EIGHT = Field.of(2, (2, 4, 6, 4, 1))
CYCLIC = Field.of(5, (5, 0, 0, 0, 1))
LINES = Field(3, (1, 0, 1), ((-3, 0), (0, 0), (1, 0)))


def orders_of_rows(field, maps):
    """What the maps are ordered by: the first digit of the image of t, and the row of digits of that of r."""
    found = []
    for pair in maps:
        letter, step = (led_member(field, field, pair, m, 66) for m in (low_letter(field), top_letter(field)))
        found.append((digits_of(field, letter, 1), digits_of(field, step, 66)))
    return found


def parts_by_trying(table):
    n = len(table)
    identity = next(k for k in range(n) if all(table[k][i] == i for i in range(n)))
    found = []
    for size in range(1, n + 1):
        for lot in combinations(range(n), size):
            if identity in lot and all(table[i][k] in lot for i in lot for k in lot):
                found.append(lot)
    return tuple(found)


class MapsTest(unittest.TestCase, ErrorCase):

    def test_examples(self):
        self.assertEqual(
            [self_number(A), self_number(C), self_number(D), self_table(ROUND), is_commuting_field(ROUND), is_whole(C),
             self_parts(A)], [2, 1, 2, ((0, 1, 2), (1, 2, 0), (2, 0, 1)), True, False, ((0,), (0, 1))])

    def test_numbers(self):
        for field in MORE:
            number = polynomial_of(field, ring.added(low_letter(field), top_letter(field)))
            self.assertEqual(self_number(field), roots_number(field, over.whole_over(field, number)))
            self.assertEqual(field.degree % self_number(field), 0)
            self.assertIs(is_whole(field), self_number(field) == field.degree)
        for field in PLAIN:
            self.assertEqual(self_number(field), field.plain_size)
        self.assertEqual([self_number(field) for field in (SIX, SQUARES, CUBE, EIGHT, CYCLIC)], [6, 4, 6, 4, 4])

    def test_maps_and_their_order(self):
        for field in MORE:
            told = self_maps(field)
            self.assertEqual(len(told), self_number(field))
            self.assertIs(are_all_leads(field, field, told), True)
            rows = orders_of_rows(field, told)
            self.assertEqual(rows, sorted(rows))
            self.assertEqual(len(set(rows)), len(rows))
            self.assertTrue(all(abs(n) < BIG for pair in told for m in pair for row in m for n in row))

    def test_judge(self):
        draw = drawer(1)
        for field in MORE:
            told = self_maps(field)
            others = []
            for u, w in told:
                c = three_values(field, field, (u, w))[2]
                change = ring.product(field, over.letter(field, 2 * c + 1), drawn_member(draw, field, 3))
                others.append((ring.added(u, change), ring.added(w, over.scaled(change, 2 ** 300))))
            self.assertIs(are_self_maps(field, told), True)
            self.assertIs(are_self_maps(field, tuple(others)), True)
            wrong = [told[1:], told + told[-1:], list(told), told[1:] + told[:1] if len(told) > 1 else (), told[0]]
            wrong.append(told[:-1] + ((told[-1][0], ring.added(told[-1][1], ring.whole(field, 1))),))
            wrong.append(told[:-1] + (list(told[-1]),))
            for value in wrong:
                self.assertIs(are_self_maps(field, value), False)
        self.check_judge(are_self_maps, (A,), [A, (A, A), (ZERO, ZERO), ((ZERO, ZERO),) * 2, (1, 2), {0: ZERO, 1: ZERO}])

    def test_tables(self):
        draw = drawer(2)
        for field in MORE:
            told, table = self_maps(field), self_table(field)
            n = len(told)
            self.assertEqual([len(row) for row in table], [n] * n)
            identity = next(k for k in range(n) if table[k] == tuple(range(n)))
            self.assertEqual(tuple(row[identity] for row in table), tuple(range(n)))
            for i in range(n):
                self.assertEqual(sorted(table[i]), list(range(n)))
                self.assertEqual(sorted(row[i] for row in table), list(range(n)))
            self.assertTrue(all(table[table[i][k]][m] == table[i][table[k][m]]
                                for i in range(n) for k in range(n) for m in range(n)))
            member = drawn_member(draw, field)
            self.assertTrue(ring.near(field, led_member(field, field, told[identity], member, 66), member, 66))
            # First the map j, and then the map i.
            for m in (member, low_letter(field), top_letter(field)):
                led = [led_member(field, field, pair, m, 20) for pair in told]
                for i in range(n):
                    for k in range(n):
                        self.assertEqual(led_member(field, field, told[i], led[k], 20), led[table[i][k]])

    def test_maps_that_leave_t(self):
        for field in MORE:
            residue = tuple(n % field.prime for n in low_letter(field)[0])
            lot = tuple(k for k, pair in enumerate(self_maps(field))
                        if tuple(n % field.prime for n in pair[0][0]) == residue)
            self.assertIn(lot, self_parts(field))

    def test_commuting_fields(self):
        for field in MORE:
            table = self_table(field)
            n = len(table)
            same = all(table[i][k] == table[k][i] for i in range(n) for k in range(n))
            self.assertIs(is_commuting_field(field), same and n == field.degree)
        self.assertEqual([is_commuting_field(field) for field in (SIX, CUBE, SQUARES, B, C)], [False, False, True, True, False])
        self.assertEqual([is_whole(field) for field in (SIX, CUBE, SQUARES, B, C)], [True, True, True, True, False])

    def test_what_is_not_true(self):
        # A field with the identity alone; more self maps than roots of the top polynomial; a table that is the same
        # in both orders, of a field that is not whole.
        self.assertEqual((self_table(C), self_number(C)), (((0,),), 1))
        top = tuple(over.with_zeros(LINES, row) for row in LINES.top)
        self.assertEqual((roots_number(LINES, top), self_number(LINES)), (2, 4))
        self.assertIs(is_commuting_field(C), False)

    def test_wrong_inputs(self):
        for function in (self_number, self_maps, self_table, is_whole, is_commuting_field, self_parts):
            self.check_parameters(function, (A,), (FIELD,))
        self.check_parameters(are_self_maps, (A, None), (FIELD, None))


class WithinTest(unittest.TestCase, ErrorCase):

    def test_parts(self):
        for field in MORE:
            self.assertEqual(self_parts(field), parts_by_trying(self_table(field)))
            for part in self_parts(field):
                self.assertEqual(fixed_size(field, part), field.degree // len(part))
        self.assertEqual([len(part) for part in self_parts(SIX)], [1, 2, 2, 2, 3, 6])
        self.assertEqual([len(part) for part in self_parts(SQUARES)], [1, 2, 2, 2, 4])
        self.assertEqual([len(part) for part in self_parts(PLAIN[5])], [1, 2, 3, 6])

    def test_polynomials_of_parts(self):
        for field in MORE:
            maps = self_maps(field)
            for part in self_parts(field):
                told = part_polynomial(field, part)
                self.assertIs(is_part_polynomial(field, part, told), True)
                self.assertEqual((len(told) - 1, told[-1]), (fixed_size(field, part), 1))
                self.assertTrue(all(abs(n) < BIG for n in told))
                self.assertLessEqual(value_of_discriminant(field.prime, told), 30)
                self.assertIs(is_unsplit(field.prime, told), True)
                within = parts_of(field.prime, told)[0][0]
                self.assertTrue(does_lead(within, field))
                self.assertTrue(self.is_left(field, maps, part, told))

    def is_left(self, field, maps, part, polynomial):
        """Whether all maps of the part leave one of the roots of the polynomial, judged by near members."""
        numbers = over.whole_over(field, polynomial)
        value = field.step_size * value_of_discriminant(field.prime, polynomial)
        if value > 66:
            return True
        found = []
        for root in near_roots(field, numbers):
            moved = [led_member(field, field, maps[k], root, 66) for k in part]
            found.append(all(are_one_root(field, numbers, root, m) for m in moved))
        return any(found)

    def test_judge_of_polynomials(self):
        for field in (A, B, C, D, ROUND, SQUARES, SIX, CUBE, CYCLIC, PLAIN[5], PLAIN[3], LINES):
            parts = self_parts(field)
            told = {part: part_polynomial(field, part) for part in parts}
            maps = self_maps(field)
            for part in parts:
                for other in parts:
                    same = is_part_polynomial(field, part, told[other])
                    if part == other or len(part) != len(other):
                        self.assertIs(same, part == other)
                    else:
                        self.assertIs(same, self.is_left(field, maps, part, told[other]))
                polynomial = told[part]
                bound = 2 * value_of_discriminant(field.prime, polynomial) + 1
                far = (polynomial[0] + field.prime ** (bound + 600),) + polynomial[1:]
                self.assertIs(is_part_polynomial(field, part, far), True)
                for value in (list(polynomial), polynomial + (0,), polynomial[:-1], (0,) + polynomial,
                              polynomial[:-1] + (True,), polynomial[:-1] + (-1,), polynomial[:-1] + (1 + field.prime,)):
                    self.assertIs(is_part_polynomial(field, part, value), False)
                if len(polynomial) > 2:
                    self.assertIs(is_part_polynomial(field, part, (0,) * (len(polynomial) - 1) + (1,)), False)
        self.check_judge(is_part_polynomial, (A, (0,)), [
            0, (5, 0, 1), (-1, 0, 1), (2, 1), (2, 2, 2), (True, 0, 1), ((1,), (0,), (1,)), A, (A,),
            (1, 2, 1), (2 ** 60, 0, 1), (-3 * 2 ** 62, 2 ** 30, 1), (1, 1, 1)])
        self.assertIs(is_part_polynomial(A, (0, 1), (7, 1)), True)
        self.assertIs(is_part_polynomial(A, (0, 1), (BIG ** 3, 1)), True)
        self.assertIs(is_part_polynomial(A, (0,), (1, 0, 1)), True)
        self.assertIs(is_part_polynomial(A, (0,), (16, 0, 1)), True)

    def test_bounds_of_the_judge(self):
        # i times 2 ** k: the discriminant of x x + 4 ** k has the value 2 k + 2.
        for k in (13, 14, 15):
            self.assertIs(is_part_polynomial(A, (0,), (4 ** k, 0, 1)), 2 * k + 2 <= 30)
        self.assertIs(is_part_polynomial(D, (0,), (4 ** 15, 2 ** 15, 1)), True)
        self.assertIs(is_part_polynomial(D, (0,), (4 ** 16, 2 ** 16, 1)), False)

    def test_least_roots(self):
        for field in MORE:
            maps, parts = self_maps(field), self_parts(field)
            for part in parts:
                polynomial = part_polynomial(field, part)
                if field.step_size * value_of_discriminant(field.prime, polynomial) > 66:
                    self.assert_too_many(66, fixed_maps, field, polynomial)
                    continue
                told = fixed_maps(field, polynomial)
                self.assertIn(told, parts)
                self.assertEqual(fixed_size(field, told), fixed_size(field, part))
                numbers = over.whole_over(field, polynomial)
                least = near_roots(field, numbers)[0]
                left = tuple(k for k, pair in enumerate(maps)
                             if are_one_root(field, numbers, least, led_member(field, field, pair, least, 66)))
                self.assertEqual(told, left)
        self.assertEqual((fixed_maps(A, (1, 0, 1)), self_table(A)), ((0,), ((0, 1), (1, 0))))
        self.assertEqual(fixed_maps(A, (-9, 0, 1)), (0, 1))
        self.assertEqual(fixed_maps(A, (0, 1, 0, 1)), (0, 1))
        self.assertEqual(len(fixed_maps(SIX, (3, 0, 0, 1))), 2)

    def test_reasons(self):
        for field in (A, C, D, SIX):
            self.assertEqual(self.assert_raises_just(Refused, fixed_maps, field, (1, 2, 1)).reason, ("double",))
            self.assertEqual(self.assert_raises_just(Refused, fixed_maps, field, (0, 0, 1)).reason, ("double",))
        self.assertEqual(self.assert_raises_just(Refused, fixed_maps, B, (1, 0, 1)).reason, ("root",))
        self.assertEqual(self.assert_raises_just(Refused, fixed_maps, C, (1, 0, 1)).reason, ("root",))
        for k in (32, 33, 34):
            # x (x - 2 ** k): over a field without steps the depth is 2 k, over A twice that.
            polynomial = (0, -2 ** k, 1)
            if k <= 33:
                self.assertEqual(fixed_maps(D, polynomial), (0, 1))
            else:
                self.assert_too_many(66, fixed_maps, D, polynomial)
            self.assert_too_many(66, fixed_maps, A, polynomial)
        self.assert_too_many(66, fixed_maps, B, (4 ** 20, 0, 1))
        for wrong in ((0, 0, 0, 0, 0, 0, 0, 1), (1, 2), (2,), (1,), ()):
            self.assert_raises_just(InvalidPolynomial, fixed_maps, A, wrong)
        self.assertEqual(fixed_maps(A, (-1, 0, 0, 0, 0, 0, 1)), (0, 1))

    def test_parts_and_fields_within(self):
        """What the document says of whole fields: led parts, whole fields within, alike ones."""
        for field in MORE:
            if not is_whole(field):
                continue
            table, parts = self_table(field), self_parts(field)
            n = len(table)
            within = {part: parts_of(field.prime, part_polynomial(field, part))[0][0] for part in parts}
            identity = next(k for k in range(n) if table[k] == tuple(range(n)))
            back = [table[h].index(identity) for h in range(n)]
            for part in parts:
                led = {tuple(sorted(table[table[h][g]][back[h]] for g in part)) for h in range(n)}
                self.assertIs(is_whole(within[part]), led == {part})
                for other in parts:
                    self.assertIs(are_alike(within[part], within[other]), other in led)
                    if set(part) <= set(other):
                        self.assertTrue(does_lead(within[other], within[part]))

    def test_sizes_within(self):
        for part in self_parts(PLAIN[5]):
            size = 6 // len(part)
            self.assertEqual(part_sizes(2, part_polynomial(PLAIN[5], part)), ((1, size),))
        for part in self_parts(SQUARES):
            self.assertEqual(part_sizes(2, part_polynomial(SQUARES, part)), ((4 // len(part), 1),))

    def test_wrong_inputs(self):
        lot = (InvalidLot, WRONG_LOTS)
        self.check_parameters(fixed_size, (A, (0,)), (FIELD, lot))
        self.check_parameters(part_polynomial, (A, (0, 1)), (FIELD, lot))
        self.check_parameters(is_part_polynomial, (A, (0,), None), (FIELD, lot, None))
        self.check_parameters(fixed_maps, (A, (1, 0, 1)), (FIELD, MONIC))
        self.assert_raises_just(InvalidLot, fixed_size, SQUARES, (0, 1, 2))

    def test_times(self):
        for field in (SIX, CUBE, PLAIN[5]):
            start = perf_counter()
            for part in self_parts(field):
                is_part_polynomial(field, part, part_polynomial(field, part))
            self.assertLess(perf_counter() - start, 6)


if __name__ == "__main__":
    unittest.main()
