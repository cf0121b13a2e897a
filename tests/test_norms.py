"""Stage 16: norms."""

import unittest
from fractions import Fraction
from math import gcd, prod

from tests import ring
from tests.samples import FIELDS, PLAIN, A, B, C, D, drawn_member
from tests.test_fields import WRONG_FIELDS
from tests.test_maps import MORE
from tests.tools import BIG, NOTHING_LIKE_IT, PRIMES, WRONG_NUMBERS, WRONG_PRIMES, ErrorCase, deep, drawer, exponent
from tests.tools import fraction_of, ratio_of
from wildsteps.errors import InvalidField, InvalidNumber, InvalidTest
from wildsteps.fields.fields import Field, norm_of
from wildsteps.norms import norms
from wildsteps.norms.norms import is_norm_member, is_norm_test, norm_index, norm_level, norm_member, norm_rows, norm_test
from wildsteps.norms.norms import number_place, test_at
from wildsteps.roots.maps import does_lead
from wildsteps.selfs.selfs import is_commuting_field
from wildsteps.steps.lists import fields_of

# A name that unittest does not take for a test.
value_at = test_at
LISTED = [field for sizes in ((2, 1, 2), (2, 2, 2), (3, 1, 3), (5, 1, 4), (3, 2, 2), (2, 1, 3)) for field in
          fields_of(*sizes)] + list(fields_of(2, 1, 4)[::4])
ALL = MORE + LISTED
BASES = {3: 2, 5: 2, 7: 3}
NUMBERS = NOTHING_LIKE_IT + tuple(x for x in WRONG_NUMBERS if x not in NOTHING_LIKE_IT) + (0, (0, 1))
NUMBER = (InvalidNumber, NUMBERS)
PLACE_LEVELS = NOTHING_LIKE_IT + (0, -1, 67, BIG, (3,), (3, 1), 10 ** 219)
THIRD = Field.of(2, (-2, 0, 0, 1))


def level_of(field):
    level = 2 * exponent(field.prime, field.degree) + 1
    return max(level, 3) if field.prime == 2 else level


def orders(prime, level):
    return (2, 2 ** (level - 2)) if prime == 2 else (prime ** (level - 1) * (prime - 1),)


def place_by_trying(prime, number, level):
    """The place by the words of the document, with all powers tried."""
    number = fraction_of(number)
    k = exponent(prime, number)
    unit = number / Fraction(prime) ** k
    modulus = prime ** level
    u = unit.numerator * pow(unit.denominator, -1, modulus) % modulus
    if prime != 2:
        return (k, next(m for m in range(orders(prime, level)[0]) if pow(BASES[prime], m, modulus) == u))
    s = 0 if u % 4 == 1 else 1
    return (k, s, next(m for m in range(2 ** (level - 2)) if (-1) ** s * pow(5, m, modulus) % modulus == u))


def triangle(rows):
    """The triangular rows by the algorithm of Euclid, row by row."""
    rows, width = [list(row) for row in rows], len(rows[0])
    made = []
    for k in range(width):
        while sum(1 for row in rows if row[k]) > 1:
            least = min((row for row in rows if row[k]), key=lambda row: abs(row[k]))
            rows = [row if row is least else [a - row[k] // least[k] * b for a, b in zip(row, least)] for row in rows]
        head = next(row for row in rows if row[k])
        rows = [row for row in rows if row is not head]
        made.append([x if head[k] > 0 else -x for x in head])
    for k in range(width):
        for above in range(k):
            share = made[above][k] // made[k][k]
            made[above] = [a - share * b for a, b in zip(made[above], made[k])]
    return tuple(map(tuple, made))


def order_rows(prime, level):
    told = orders(prime, level)
    return [(0,) * (k + 1) + (order,) + (0,) * (len(told) - k - 1) for k, order in enumerate(told)]


def rows_by_norms(field, draw, many):
    """The rows that the norms of many members make."""
    level = level_of(field)
    rows = order_rows(field.prime, level) + [(field.degree,) + (0,) * len(orders(field.prime, level))]
    for _ in range(many):
        member = tuple(tuple(draw.randint(-60, 60) for _ in range(field.plain_size)) for _ in range(field.step_size))
        norm = ring.fast_determinant(ring.table(field, member))
        if norm:
            rows.append(place_by_trying(field.prime, norm, level))
    rows.append(place_by_trying(field.prime, ring.fast_determinant(ring.table(field, ring.letters(field)[1])), level))
    return triangle(rows)


def is_in_rows(rows, vector):
    vector = list(vector)
    for k, row in enumerate(rows):
        share, rest = divmod(vector[k], row[k])
        if rest:
            return False
        vector = [a - share * b for a, b in zip(vector, row)]
    return True


def drawn_numbers(draw, many):
    found = []
    for _ in range(many):
        top = draw.choice((-1, 1)) * draw.randint(1, 10 ** draw.choice((1, 2, 5, 59)))
        bottom = draw.choice((1, 1, draw.randint(1, 60)))
        common = gcd(top, bottom)
        found.append(top // common if bottom == common else (top // common, bottom // common))
    return found


def sum_at(test, place):
    total = sum((Fraction(*pair) * number for pair, number in zip(test, place)), Fraction(0))
    return ratio_of(total % 1)


class PlacesTest(unittest.TestCase, ErrorCase):

    def test_constant_and_examples(self):
        self.assertEqual(norms.MAX_BOTTOM, 10 ** 6)
        self.assertEqual(
            [norm_level(A), number_place(2, 12, 3), number_place(2, 5, 3), number_place(3, 2, 1),
             number_place(5, (1, 50), 2), norm_rows(A), norm_index(A), norm_index(THIRD)],
            [3, (2, 1, 1), (0, 0, 1), (0, 1), (-2, 19), ((1, 0, 0), (0, 2, 0), (0, 0, 1)), 2, 1])

    def test_levels(self):
        for field in ALL:
            self.assertEqual(norm_level(field), level_of(field))
        self.assertEqual([norm_level(field) for field in (C, D, PLAIN[3], PLAIN[6])], [3, 3, 5, 1])

    def test_places_by_trying(self):
        draw = drawer(171)
        for prime, most in ((2, 9), (3, 6), (5, 4), (7, 4)):
            for level in range(3 if prime == 2 else 1, most):
                for number in drawn_numbers(draw, 25) + [1, -1, prime, (1, prime), (-1, prime ** 9)]:
                    self.assertEqual(number_place(prime, number, level), place_by_trying(prime, number, level))

    def test_places_of_great_levels(self):
        draw = drawer(172)
        for prime in PRIMES:
            for level in (20, 65, 66):
                for number in drawn_numbers(draw, 8):
                    place = number_place(prime, number, level)
                    told = orders(prime, level)
                    self.assertEqual(len(place), len(told) + 1)
                    self.assertTrue(all(0 <= x < order for x, order in zip(place[1:], told)))
                    modulus = prime ** level
                    unit = (-1) ** place[1] * pow(5, place[2], modulus) if prime == 2 else pow(BASES[prime], place[1], modulus)
                    rest = fraction_of(number) / Fraction(prime) ** place[0] - unit
                    self.assertTrue(rest == 0 or exponent(prime, rest) >= level)

    def test_products_are_sums(self):
        draw = drawer(173)
        for prime in PRIMES:
            for level in (3, 12, 66):
                told = (0,) + orders(prime, level)
                one, other = draw.randint(1, 10 ** 25), draw.randint(-10 ** 25, -1)
                product = number_place(prime, one * other, level)
                added = [a + b for a, b in zip(number_place(prime, one, level), number_place(prime, other, level))]
                self.assertEqual(product, tuple(x % order if order else x for x, order in zip(added, told)))
                quotient = number_place(prime, ratio_of(Fraction(one, other)), level)
                less = [a - b for a, b in zip(number_place(prime, one, level), number_place(prime, other, level))]
                self.assertEqual(quotient, tuple(x % order if order else x for x, order in zip(less, told)))

    def test_wrong_arguments(self):
        self.check_parameters(norm_level, (A,), ((InvalidField, WRONG_FIELDS),))
        self.check_parameters(norm_rows, (A,), ((InvalidField, WRONG_FIELDS),))
        self.check_parameters(norm_index, (A,), ((InvalidField, WRONG_FIELDS),))
        prime = (InvalidNumber, WRONG_PRIMES)
        self.check_parameters(number_place, (3, 2, 1), (prime, NUMBER, (InvalidNumber, PLACE_LEVELS)))
        self.check_parameters(number_place, (2, 5, 3), (prime, NUMBER, (InvalidNumber, PLACE_LEVELS + (1, 2))))
        self.assertEqual(number_place(5, 3, 66)[0], 0)
        for level in (1, 2):
            self.assertEqual(len(number_place(7, BIG - 1, level)), 2)


class RowsTest(unittest.TestCase, ErrorCase):

    def test_rows_against_norms(self):
        draw = drawer(174)
        for field in ALL:
            rows = norm_rows(field)
            self.assertEqual(rows, rows_by_norms(field, draw, 25 if field.degree < 6 else 40), str(field))
            self.assertEqual(norm_index(field), prod(row[k] for k, row in enumerate(rows)))
            self.assertEqual(field.degree % norm_index(field), 0)

    def test_index_of_commuting_fields(self):
        commuting = [field for field in ALL if is_commuting_field(field)]
        self.assertGreater(len(commuting), 25)
        for field in ALL:
            self.assertIs(norm_index(field) == field.degree, field in commuting)

    def test_greatest_commuting_field_within(self):
        # The fields within of other fields of degree 4, and their norms.
        twos = [field for sizes in ((2, 1, 2), (2, 2, 1)) for field in fields_of(*sizes)]
        for field in fields_of(2, 1, 4)[::3] + fields_of(2, 2, 2):
            if is_commuting_field(field):
                continue
            within = [other for other in twos if does_lead(other, field)]
            self.assertEqual(norm_index(field), 2 if within else 1)
            level = norm_level(field)
            for other in within:
                self.assertEqual(triangle(list(norm_rows(other)) + order_rows(2, level)), norm_rows(field))

    def test_fields_without_steps_and_tame_ones(self):
        for field in PLAIN:
            f = field.plain_size
            wanted = ((f, 0, 0), (0, 1, 0), (0, 0, 1)) if field.prime == 2 else ((f, 0), (0, 1))
            self.assertEqual(norm_rows(field), wanted)
        for field in ALL:
            if field.step_size % field.prime:
                rows, p = norm_rows(field), field.prime
                near = [(0, 1, 0), (0, 0, 1)] if p == 2 else [(0, p - 1)]
                self.assertTrue(all(is_in_rows(rows, vector) for vector in near))

    def test_not_true(self):
        # -1 is a norm of each field without a root of -1 in it: not of the field of a root of 3, for 2.
        self.assertIsNone(norm_member(Field.of(2, (-2, 2, 1)), -1))
        # A unit is a norm if it is one modulo p: 3 is none of A.
        self.assertIsNone(norm_member(A, 3))
        self.assertEqual((norm_index(THIRD), THIRD.degree), (1, 3))


class MembersTest(unittest.TestCase, ErrorCase):

    def is_member_by_norm(self, field, number, member):
        norm = ring.fast_determinant(ring.table(field, member))
        quotient = fraction_of(number) / norm
        k = exponent(field.prime, quotient)
        rest = quotient / Fraction(field.prime) ** k - 1
        return k % field.degree == 0 and (rest == 0 or exponent(field.prime, rest) >= level_of(field))

    def is_test_by_places(self, field, number, test):
        level, rows = level_of(field), norm_rows(field)
        return all(sum_at(test, row) == (0, 1) for row in rows) and \
            sum_at(test, place_by_trying(field.prime, number, level)) != (0, 1)

    def check_number(self, field, number):
        member, test = norm_member(field, number), norm_test(field, number)
        self.assertIs(member is None, test is not None)
        if member is None:
            self.assertTrue(self.is_test_by_places(field, number, test))
            self.assertIs(is_norm_test(field, number, test), True)
            self.assertTrue(all(0 <= top < bottom <= field.degree for top, bottom in test if bottom > 1))
        else:
            self.assertTrue(self.is_member_by_norm(field, number, member))
            self.assertTrue(all(abs(entry) < BIG for row in member for entry in row))
            self.assertIs(is_norm_member(field, number, member), True)
        return member is not None

    def test_a_member_or_a_test(self):
        draw = drawer(175)
        for field in ALL:
            found = [self.check_number(field, number) for number in drawn_numbers(draw, 12) + [1, -1, field.prime]]
            if norm_index(field) == 1:
                self.assertTrue(all(found))
            norm = norm_of(field, drawn_member(draw, field, 4))
            if 0 < abs(norm) < BIG:
                self.assertTrue(self.check_number(field, norm))

    def test_judged_members(self):
        draw = drawer(176)
        for field in ALL[::2]:
            for number in drawn_numbers(draw, 3) + [field.prime ** field.degree]:
                for _ in range(5):
                    member = drawn_member(draw, field, 5)
                    if any(any(row) for row in member):
                        wanted = self.is_member_by_norm(field, number, member)
                        self.assertIs(is_norm_member(field, number, member), wanted)
                member = norm_member(field, number)
                if member is not None:
                    far = tuple(tuple(entry * field.prime for entry in row) for row in member)
                    self.assertIs(is_norm_member(field, number, far), True)
                    near = ring.added(member, ring.whole(field, field.prime ** 400))
                    self.assertIs(is_norm_member(field, number, near), True)
                    other = ring.product(field, member, ring.letters(field)[1])
                    self.assertIs(is_norm_member(field, number, other), self.is_member_by_norm(field, number, other))

    def test_norms_of_members_with_quotients(self):
        # A norm need not be the norm of a member with integers: half a norm of value 2.
        self.assertIs(is_norm_member(D, (1, 4), ((1, 0),)), True)
        self.assertIs(is_norm_member(D, 4, ((1, 0),)), True)
        self.assertIs(is_norm_member(D, 2, ((1, 0),)), False)

    def test_judged_tests(self):
        half, none = (1, 2), (0, 1)
        self.assertIs(is_norm_test(A, 3, (none, half, none)), True)
        self.assertIs(is_norm_test(A, 5, (none, half, none)), False)
        self.assertIs(is_norm_test(B, 2, (half, half, none)), True)
        for wrong in ((none, (2, 4), none), (none, (3, 2), none), (none, (-1, 2), none), (none, half), (none, half, none, none),
                      ((0, 2), half, none), ((1, 1), half, none), (none, (1, 2, 3), none), (none, [1, 2], none),
                      [none, half, none], (none, (True, 2), none), (none, (1, True), none), (none, half, False),
                      (half, half, none), (none, none, none), ((1, 10 ** 6 + 1), half, none), (none, (1, BIG * 2), none)):
            self.assertIs(is_norm_test(A, 3, wrong), False)
        draw = drawer(177)
        for field in ALL[::3]:
            width = len(norm_rows(field))
            for number in drawn_numbers(draw, 4):
                for _ in range(8):
                    test = tuple(ratio_of(Fraction(draw.randint(0, 5), draw.randint(1, 6)) % 1) for _ in range(width))
                    self.assertIs(is_norm_test(field, number, test), self.is_test_by_places(field, number, test))

    def test_all_tests_of_a_field(self):
        # Each test of an index n has values with bottoms that divide n; there are n of them.
        for field in (A, B, D, PLAIN[3], FIELDS[13]):
            n, width = norm_index(field), len(norm_rows(field))
            ratios = sorted({ratio_of(Fraction(k, n)) for k in range(n)})
            tests = [()]
            for _ in range(width):
                tests = [test + (pair,) for test in tests for pair in ratios]
            number = next(x for x in range(2, 99) if norm_member(field, x) is None) if n > 1 else 2
            right = [test for test in tests if is_norm_test(field, number, test)]
            of_field = [test for test in tests if all(sum_at(test, row) == (0, 1) for row in norm_rows(field))]
            self.assertEqual(len(of_field), n)
            place = place_by_trying(field.prime, number, level_of(field))
            self.assertEqual(right, [test for test in of_field if sum_at(test, place) != (0, 1)])

    def test_long_integers(self):
        for field in (A, B, C, D, PLAIN[5]):
            for number in (BIG - 1, 1 - BIG, (BIG - 1, BIG - 2), (1, BIG - 1), field.prime ** 60):
                if fraction_of(number).denominator < BIG:
                    self.check_number(field, number)
            member = norm_member(field, 1)
            long = ring.added(member, ring.whole(field, field.prime ** 300))
            self.assertIs(is_norm_member(field, 1, long), True)

    def test_wrong_arguments(self):
        field = (InvalidField, WRONG_FIELDS)
        for function in (norm_member, norm_test):
            self.check_parameters(function, (A, 3), (field, NUMBER))
            self.check_parameters(function, (A, 5), (field, NUMBER))
        self.check_parameters(is_norm_member, (A, 5, ((1,), (2,))), (field, NUMBER, None))
        self.check_parameters(is_norm_test, (A, 3, ((0, 1), (1, 2), (0, 1))), (field, NUMBER, None))
        self.check_judge(is_norm_member, (A, 5), (0, ((0,), (0,)), ((1,),), ((1,), (0,), (0,)), [(1,), (0,)], A))
        self.check_judge(is_norm_test, (A, 3), (0, 1, (), ((0, 1),) * 3, A, (0, 1), ((), (), ())))


class ValuesTest(unittest.TestCase, ErrorCase):

    def test_values(self):
        draw = drawer(178)
        for prime in PRIMES:
            for level in (3, 4, 5):
                told = orders(prime, level)
                for number in drawn_numbers(draw, 12):
                    test = (ratio_of(Fraction(draw.randint(0, 99), draw.choice((1, 2, 3, 7, 10 ** 6))) % 1),) + tuple(
                        ratio_of(Fraction(draw.randint(0, order), order) % 1) for order in told)
                    place = place_by_trying(prime, number, level)
                    self.assertEqual(value_at(prime, level, test, number), sum_at(test, place))

    def test_bottoms(self):
        none = (0, 1)
        self.assertEqual(value_at(3, 1, ((1, 10 ** 6), none), 9), (1, 500000))
        self.assertEqual(value_at(3, 1, ((10 ** 6 - 1, 10 ** 6), (1, 2)), 6), (499999, 10 ** 6))
        for wrong in (((1, 10 ** 6 + 1), none), ((1, BIG), none)):
            self.assert_raises_just(InvalidTest, value_at, 3, 1, wrong, 9)
        # The bottoms behind the first one divide the orders.
        self.assertEqual(value_at(7, 1, (none, (1, 6)), 3), (1, 6))
        self.assert_raises_just(InvalidTest, value_at, 7, 1, (none, (1, 7)), 3)
        self.assertEqual(value_at(7, 2, (none, (1, 7)), 3), (1, 7))
        self.assert_raises_just(InvalidTest, value_at, 2, 3, (none, (1, 4), none), 3)
        self.assert_raises_just(InvalidTest, value_at, 2, 3, (none, none, (1, 4)), 3)
        self.assertEqual(value_at(2, 4, (none, none, (1, 4)), 5), (1, 4))
        self.assertEqual(value_at(2, 66, (none, (1, 2), (1, 2 ** 19)), -5), (2 ** 18 + 1, 2 ** 19))

    def test_tests_of_fields_have_values(self):
        draw = drawer(179)
        for field in ALL[::4]:
            for number in drawn_numbers(draw, 6):
                test = norm_test(field, number)
                if test is not None:
                    self.assertNotEqual(value_at(field.prime, norm_level(field), test, number), (0, 1))
                    norm = norm_of(field, drawn_member(draw, field, 3))
                    if 0 < abs(norm) < BIG:
                        self.assertEqual(value_at(field.prime, norm_level(field), test, norm), (0, 1))

    def test_wrong_arguments(self):
        none = (0, 1)
        tests = NOTHING_LIKE_IT + (
            0, (), (none,), (none, none, none), none, (0, 1), ((0, 2), none), ((1, 1), none), ((2, 4), none), ((1, -2), none),
            ((3, 2), none), ((True, 2), none), ((0, True), none), ((1, 2, 3), none), ([0, 1], none), [none, none],
            (none, (1, 5)), (none, (1, 4)), ((10 ** 219, 10 ** 219 + 1), none), (none, None), ("01", "01"), deep(none, 2), A)
        self.check_parameters(value_at, (3, 1, (none, (1, 2)), 2), (
            (InvalidNumber, WRONG_PRIMES), (InvalidNumber, PLACE_LEVELS), (InvalidTest, tests), NUMBER))
        tests = tuple(test for test in tests if test != (none, none, none)) + ((none, none), (none, none, (1, 4)))
        self.check_parameters(value_at, (2, 3, (none, (1, 2), none), 3), (
            (InvalidNumber, WRONG_PRIMES), (InvalidNumber, PLACE_LEVELS + (1, 2)), (InvalidTest, tests), NUMBER))


if __name__ == "__main__":
    unittest.main()
