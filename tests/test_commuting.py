"""Stage 17: lots of finite index."""

import unittest
from fractions import Fraction
from itertools import product
from math import gcd, prod

from tests.samples import FIELDS, PLAIN, A, B, C, D
from tests.test_fields import WRONG_FIELDS
from tests.test_norms import LISTED, PLACE_LEVELS, THIRD, drawn_numbers, order_rows, orders
from tests.test_norms import triangle
from tests.tools import BIG, NOTHING_LIKE_IT, PRIMES, WRONG_PRIMES, ErrorCase, drawer, exponent, fraction_of, ratio_of
from wildsteps.errors import InvalidField, InvalidLot, InvalidNumber, InvalidOperation
from wildsteps.fields.fields import Field
from wildsteps.norms import commuting
from wildsteps.norms.commuting import NumberLot, is_lot_field, joined_lot, lot_field, met_lot, norm_lot, ones_lot
from wildsteps.norms.commuting import ones_within, power_lot, raised_lot
from wildsteps.norms.norms import norm_index, norm_level, norm_rows, number_place
from wildsteps.roots.maps import are_alike, does_lead
from wildsteps.selfs.selfs import is_commuting_field, is_whole
from wildsteps.units.units import power_index

LOT = (InvalidLot, NOTHING_LIKE_IT + (0, 2, ((1, 0, 0),), (2, 3, ((1, 0, 0),)), A, [A], 2 ** 219))
PRIME = (InvalidNumber, WRONG_PRIMES)
LEVELS = {2: 5, 3: 3, 5: 3, 7: 1}


def lots_of_index(prime, most):
    """All lots of an index to 4 or less, by their triangular rows."""
    level = LEVELS[prime]
    width = len(orders(prime, level)) + 1
    found = []
    for heads in product(range(1, most + 1), repeat=width):
        if prod(heads) > most:
            continue
        choices = [range(heads[k]) for i in range(width) for k in range(i + 1, width)]
        for above in product(*choices):
            left = list(above)
            rows = [tuple([0] * i + [heads[i]] + [left.pop(0) for _ in range(i + 1, width)]) for i in range(width)]
            lot = NumberLot(prime, level, tuple(rows))
            if lot.lot_rows == tuple(rows):
                found.append(lot)
    return found


ALL_LOTS = {prime: lots_of_index(prime, 4) for prime in PRIMES}


def sums_modulo(rows, modulus):
    """All sums of multiples of some rows, modulo an integer whose multiples are such sums."""
    width = len(rows[0])
    found = {(0,) * width}
    for row in rows:
        found = {tuple((a + k * b) % modulus for a, b in zip(vector, row)) for vector in found for k in range(modulus)}
    return found


def is_in_by_sums(prime, level, rows, number):
    """Whether a number is in a lot of a small index, by all sums of its rows."""
    index = prod(row[k] for k, row in enumerate(triangle(list(rows) + order_rows(prime, level))))
    place = number_place(prime, number, level)
    return tuple(x % index for x in place) in sums_modulo(list(rows) + order_rows(prime, level), index)


def drawn_rows(draw, prime, level, many):
    width = len(orders(prime, level)) + 1
    rows = [tuple(draw.randint(-6, 6) for _ in range(width)) for _ in range(many)]
    return tuple(rows) if any(row[0] for row in rows) else drawn_rows(draw, prime, level, many)


class LotsTest(unittest.TestCase, ErrorCase):

    def test_constants_and_examples(self):
        self.assertEqual((commuting.MOST_ROWS, commuting.MOST_LOT_INDEX), (12, 4))
        gauss, root = norm_lot(A), norm_lot(B)
        self.assertEqual(
            [gauss.lot_rows, root.lot_rows, gauss == root, 2 in gauss, 2 in root, -2 in root, 5 in gauss,
             (1, 5) in gauss, 0 in gauss],
            [((1, 0, 0), (0, 2, 0), (0, 0, 1)), ((1, 1, 0), (0, 2, 0), (0, 0, 1)), False, True, False, True, True, True,
             False])
        self.assertEqual(str(gauss), "lot of index 2 at 2")
        self.assertEqual(str(ones_lot(7, 0, 10)), "lot of index 10 at 7")

    def test_rows_and_properties(self):
        draw = drawer(181)
        for prime in PRIMES:
            for level in (3, 4, 66):
                for many in (1, 2, 3, 12):
                    rows = drawn_rows(draw, prime, level, many)
                    lot = NumberLot(prime, level, rows)
                    self.assertEqual((lot.lot_prime, lot.lot_level), (prime, level))
                    self.assertEqual(lot.lot_rows, triangle(list(rows) + order_rows(prime, level)))
                    self.assertEqual(lot.lot_index, prod(row[k] for k, row in enumerate(lot.lot_rows)))
                    self.assertEqual(NumberLot(prime, level, lot.lot_rows), lot)
                    self.assertEqual(str(lot), f"lot of index {lot.lot_index} at {prime}")

    def test_numbers_in_lots(self):
        draw = drawer(182)
        for prime in PRIMES:
            for level in (3, 4):
                for _ in range(12):
                    rows = drawn_rows(draw, prime, level, draw.randint(1, 3))
                    lot = NumberLot(prime, level, rows)
                    if lot.lot_index > 12:
                        continue
                    for number in drawn_numbers(draw, 10) + [1, -1, prime]:
                        self.assertIs(number in lot, is_in_by_sums(prime, level, rows, number))

    def test_products_quotients_and_long_integers(self):
        draw = drawer(183)
        for lot in ALL_LOTS[2] + ALL_LOTS[3][::2] + ALL_LOTS[5][::3]:
            inside = [number for number in drawn_numbers(draw, 30) if number in lot][:4]
            for one in inside:
                for other in inside:
                    both, quotient = fraction_of(one) * fraction_of(other), fraction_of(one) / fraction_of(other)
                    self.assertIn(ratio_of(both), lot)
                    self.assertIn(ratio_of(quotient), lot)
                    self.assertIn(ratio_of(both ** 9), lot)
            near = 1 + lot.lot_prime ** 700
            self.assertIn(near, lot)
            self.assertIn(ratio_of(Fraction(near, 1 + lot.lot_prime ** 300)), lot)

    def test_what_is_in_no_lot(self):
        lot = NumberLot(2, 3, ((1, 0, 0), (0, 1, 0), (0, 0, 1)))
        self.assertEqual(lot.lot_index, 1)
        for value in NOTHING_LIKE_IT + (0, (0, 1), (2, 4), (1, 0), (1, -2), (3,), [1, 2], (True, 2), A, lot, (1, 2, 3)):
            self.assertIs(value in lot, False)
            self.assertIs(lot == value, value is lot)
            self.assertIs(lot != value, value is not lot)
        for number in (1, -1, 6, (3, 2), BIG ** 2, (1, BIG ** 3)):
            self.assertIs(number in lot, True)

    def test_equal_lots(self):
        lots = ALL_LOTS[2]
        for lot in lots:
            self.assertEqual([other for other in lots if other == lot], [lot])
            higher = NumberLot(2, 40, lot.lot_rows + order_rows_of(lot))
            self.assertTrue(lot == higher and not lot != higher)
            doubled = NumberLot(2, 5, lot.lot_rows + tuple(tuple(3 * x for x in row) for row in lot.lot_rows))
            self.assertEqual(doubled, lot)
        # Equal rows at another prime tell another lot.
        self.assertNotEqual(ones_lot(3, 0, 2), ones_lot(5, 0, 2))
        # Of index 2 and level 3 there are several.
        self.assertNotEqual(norm_lot(A), norm_lot(B))

    def test_no_iteration(self):
        lot = norm_lot(A)
        for function in (list, tuple, iter, sorted, lambda x: [*x]):
            self.assertRaises(TypeError, function, lot)
        for function in (lambda: lot + lot, lambda: lot < lot, lambda: len(lot), lambda: lot[0]):
            self.assertRaises(TypeError, function)

    def test_wrong_arguments(self):
        rows = NOTHING_LIKE_IT + (
            0, (), ((0, 0),), ((0, 1), (0, 2)), ((1,),), ((1, 2, 3),), ((1, 0), (1,)), (1, 0), [(1, 0)], ([1, 0],),
            ((1, True),), ((True, 1),), ((1, None),), ((BIG, 0),), ((1, -BIG),), ((1, (0,)),), ((1, 0),) * 13, A, {0: (1, 0)})
        self.check_parameters(NumberLot, (3, 2, ((1, 0),)), (PRIME, (InvalidNumber, PLACE_LEVELS), (InvalidLot, rows)))
        rows = tuple(row for row in rows if row != ((1, 2, 3),)) + (((1, 2),), ((0, 1, 1),))
        self.check_parameters(NumberLot, (2, 3, ((1, 0, 0),)), (
            PRIME, (InvalidNumber, PLACE_LEVELS + (1, 2)), (InvalidLot, rows)))
        self.assertEqual(NumberLot(3, 1, ((1, 0),) * 12).lot_index, 2)
        self.assertEqual(NumberLot(7, 66, ((1 - BIG, 5),)).lot_rows[0][0], BIG - 1)

    def test_arguments_are_left(self):
        rows = ((2, 1, 0), (0, 0, 3))
        lot = NumberLot(2, 4, rows)
        self.assertEqual(rows, ((2, 1, 0), (0, 0, 3)))
        self.assertEqual(lot.lot_rows, lot.lot_rows)
        self.assertRaises(AttributeError, setattr, lot, "lot_level", 5)


def order_rows_of(lot):
    return tuple(order_rows(lot.lot_prime, lot.lot_level))


class SumsTest(unittest.TestCase, ErrorCase):

    def test_raised(self):
        for lot in ALL_LOTS[2][::3] + ALL_LOTS[3][::3] + ALL_LOTS[7][::3]:
            for level in (lot.lot_level, lot.lot_level + 1, 66):
                raised = raised_lot(lot, level)
                self.assertEqual((raised.lot_level, raised.lot_prime), (level, lot.lot_prime))
                self.assertEqual(raised, lot)
                for number in (2, 3, -5, (7, 11), 10):
                    self.assertIs(number in raised, number in lot)
        lot = NumberLot(2, 5, ((1, 0, 0),))
        self.assert_raises_just(InvalidOperation, raised_lot, lot, 4)
        self.assert_raises_just(InvalidOperation, raised_lot, lot, 3)
        self.check_parameters(raised_lot, (lot, 6), (LOT, (InvalidNumber, PLACE_LEVELS + (1, 2))))
        self.check_parameters(raised_lot, (ones_lot(3, 1, 1), 2), (LOT, (InvalidNumber, PLACE_LEVELS)))

    def test_joined_and_met(self):
        draw = drawer(184)
        for prime in PRIMES:
            lots = draw.sample(ALL_LOTS[prime], 8)
            for one in lots:
                for other in lots:
                    joined, met = joined_lot(one, other), met_lot(one, other)
                    self.assertEqual(one.lot_index * other.lot_index, joined.lot_index * met.lot_index)
                    self.assertEqual(joined.lot_rows, triangle(list(one.lot_rows) + list(other.lot_rows)))
                    for number in drawn_numbers(draw, 6) + [prime]:
                        self.assertIs(number in met, number in one and number in other)
                        if number in one or number in other:
                            self.assertIn(number, joined)
                    self.assertEqual((joined_lot(joined, one), met_lot(met, one)), (joined, met))
                    self.assertEqual((joined == one), (met == other))

    def test_levels_of_results(self):
        one, other = NumberLot(2, 4, ((1, 0, 0),)), NumberLot(2, 9, ((2, 1, 3),))
        for function in (joined_lot, met_lot):
            for pair in ((one, other), (other, one)):
                self.assertEqual(function(*pair).lot_level, 9)

    def test_great_indices(self):
        one, other = NumberLot(3, 1, ((BIG - 1, 0),)), NumberLot(3, 1, ((BIG - 2, 1),))
        met, joined = met_lot(one, other), joined_lot(one, other)
        self.assertEqual(met.lot_index * joined.lot_index, one.lot_index * other.lot_index)
        self.assertGreater(met.lot_rows[0][0], BIG)
        self.assertEqual(met_lot(met, one), met)
        self.assertEqual(raised_lot(met, 2), met)
        self.assertIs(is_lot_field(met, A), False)
        self.assertEqual(ones_within(one), (1, BIG - 1))

    def test_wrong_arguments(self):
        one, other = norm_lot(A), norm_lot(B)
        for function in (joined_lot, met_lot):
            self.check_parameters(function, (one, other), (LOT, LOT))
            self.assert_raises_just(InvalidOperation, function, one, ones_lot(3, 0, 1))
            self.assert_raises_just(InvalidLot, function, None, ones_lot(3, 0, 1))


class FieldsTest(unittest.TestCase, ErrorCase):

    def test_lots_of_norms(self):
        for field in FIELDS + LISTED[::3]:
            lot = norm_lot(field)
            self.assertEqual((lot.lot_prime, lot.lot_level, lot.lot_rows, lot.lot_index),
                             (field.prime, norm_level(field), norm_rows(field), norm_index(field)))
        self.check_parameters(norm_lot, (A,), ((InvalidField, WRONG_FIELDS),))

    def test_fields_in_one_another(self):
        for one in FIELDS[::2]:
            for other in FIELDS[::3]:
                if one.prime == other.prime and does_lead(one, other):
                    self.assertEqual(joined_lot(norm_lot(one), norm_lot(other)), norm_lot(one))

    def test_alike_fields(self):
        commuting_fields = [field for field in FIELDS + LISTED if is_commuting_field(field)]
        for one in commuting_fields:
            for other in commuting_fields[::2]:
                if one.prime == other.prime and one.degree == other.degree:
                    self.assertIs(norm_lot(one) == norm_lot(other), are_alike(one, other))

    def test_fields_of_lots(self):
        self.assertEqual([len(ALL_LOTS[prime]) for prime in PRIMES], [28, 11, 12, 11])
        for prime in PRIMES:
            found = []
            for lot in ALL_LOTS[prime]:
                f = lot.lot_rows[0][0]
                if prime ** f > 64:
                    self.assert_too_many(64, lot_field, lot)
                    continue
                field = lot_field(lot)
                self.assertEqual((field.prime, field.degree, field.plain_size), (prime, lot.lot_index, f))
                self.assertEqual(norm_lot(field), lot)
                self.assertTrue(is_whole(field) and is_commuting_field(field))
                found.append(field)
                self.assertEqual([other for other in ALL_LOTS[prime] if is_lot_field(other, field)], [lot])
            for k, field in enumerate(found):
                self.assertFalse(any(are_alike(field, other) for other in found[:k]))

    def test_each_commuting_field_is_found(self):
        for field in LISTED + FIELDS:
            if is_commuting_field(field) and field.degree <= 4:
                told = lot_field(raised_lot(norm_lot(field), 50))
                self.assertTrue(are_alike(told, field))

    def test_judged_fields(self):
        for lot in (norm_lot(A), norm_lot(THIRD), ones_lot(2, 0, 2), ones_lot(3, 0, 2), norm_lot(C)):
            for field in FIELDS + LISTED + [THIRD]:
                wanted = field.prime == lot.lot_prime and field.degree == lot.lot_index and \
                    norm_rows(field) == lot.lot_rows
                self.assertIs(is_lot_field(lot, field), wanted)
        self.check_judge(is_lot_field, (norm_lot(A),), (0, (A,), [A], norm_lot(A), B))
        self.check_parameters(is_lot_field, (norm_lot(A), A), (LOT, None))

    def test_limits(self):
        self.assert_too_many(4, lot_field, ones_lot(2, 0, 5))
        self.assert_too_many(4, lot_field, ones_lot(7, 0, 5))
        self.assert_too_many(4, lot_field, ones_lot(3, 2, 1))
        self.assert_too_many(64, lot_field, ones_lot(7, 0, 3))
        self.assert_too_many(64, lot_field, ones_lot(3, 0, 4))
        self.assertEqual(lot_field(ones_lot(2, 0, 4)), Field.plain(2, 4))
        self.assertEqual(lot_field(ones_lot(3, 0, 3)).degree, 3)
        self.check_parameters(lot_field, (norm_lot(A),), (LOT,))

    def test_not_all_lots_have_all_units(self):
        self.assertEqual((norm_lot(A).lot_index, 3 in norm_lot(A), 7 in norm_lot(A)), (2, False, False))


class OnesTest(unittest.TestCase, ErrorCase):

    def units_near(self, prime, power):
        """Units that leave 1 modulo p ** power, many enough to make all such at the levels of these tests."""
        return [u for u in range(1, 3 * prime ** max(power, 2) * prime) if u % prime and u % prime ** power == 1 % prime ** power]

    def test_units_and_powers_within(self):
        for prime in PRIMES:
            for lot in ALL_LOTS[prime] + [ones_lot(prime, 2, 6), power_lot(prime, 2), power_lot(prime, 6)]:
                a, b = ones_within(lot)
                self.assertEqual(b, next(k for k in range(1, 99) if prime ** k in lot))
                self.assertTrue(all(u in lot for u in self.units_near(prime, a)))
                if a > 0:
                    self.assertFalse(all(u in lot for u in self.units_near(prime, a - 1)))

    def test_fields_of_roots_of_one(self):
        # Of the order 4, 8 for 2, of the order 3 for 3, as z - 1, and of orders that p does not divide.
        made = [(A, 2, 4), (Field.of(2, (2, 4, 6, 4, 1)), 2, 8), (Field.of(3, (3, 3, 1)), 3, 3), (D, 2, 3), (PLAIN[2], 2, 7)]
        for prime in (2, 3):
            for lot in ALL_LOTS[prime]:
                if prime ** lot.lot_rows[0][0] > 64:
                    continue
                field = lot_field(lot)
                a, b = ones_within(lot)
                for other, p, order in made:
                    if p != prime:
                        continue
                    k, m = exponent(p, order), order // p ** exponent(p, order)
                    i = next(i for i in range(1, 9) if (p ** i - 1) % m == 0)
                    self.assertIs(does_lead(field, other), k >= a and i % b == 0)

    def test_lots_of_ones(self):
        for prime in PRIMES:
            for power, size in ((0, 1), (0, 5), (1, 1), (1, 2), (2, 3), (3, 1), (4, 2), (40, 1000)):
                lot = ones_lot(prime, power, size)
                least = 3 if prime == 2 else 1
                self.assertEqual((lot.lot_prime, lot.lot_level), (prime, max(power, least)))
                units = 1 if power == 0 else prime ** (power - 1) * (prime - 1)
                self.assertEqual(lot.lot_index, size * units)
                a = 0 if (prime, power) == (2, 1) else power
                self.assertEqual(ones_within(lot), (a, size))
                self.assertIn((1, prime ** size), lot)
                self.assertIn(1 + prime ** (power or 1), lot)
                if size > 1:
                    self.assertNotIn(prime, lot)
        self.check_parameters(ones_lot, (3, 2, 5), (
            PRIME, (InvalidNumber, NOTHING_LIKE_IT + (-1, 41, BIG, (1,), 10 ** 219)),
            (InvalidNumber, NOTHING_LIKE_IT + (0, -1, 1001, BIG, (1,), 10 ** 219))))
        self.assertEqual(ones_lot(2, 40, 1).lot_level, 40)

    def test_lots_of_powers(self):
        draw = drawer(186)
        for prime in PRIMES:
            plain = Field.plain(prime, 1)
            for n in range(1, 13):
                lot = power_lot(prime, n)
                level = max(2 * exponent(prime, n) + 1, 3 if prime == 2 else 1)
                self.assertEqual(lot.lot_level, level)
                more = gcd(n, prime - 1) if prime > 2 else gcd(n, 2)
                self.assertEqual(lot.lot_index, n * prime ** exponent(prime, n) * more)
                if n <= 6:
                    self.assertEqual(lot.lot_index, power_index(plain, n))
                for number in drawn_numbers(draw, 3):
                    self.assertIn(ratio_of(fraction_of(number) ** n), lot)
                told = sum(1 for u in range(1, prime ** level) if u % prime and u in lot)
                powers = len({pow(u, n, prime ** level) for u in range(prime ** level) if u % prime})
                if prime ** level < 3000:
                    self.assertEqual(told, powers)
        for prime in PRIMES:
            for lot in ALL_LOTS[prime]:
                power = power_lot(prime, lot.lot_index)
                self.assertEqual(joined_lot(power, lot), lot)
        self.check_parameters(power_lot, (3, 2), (
            PRIME, (InvalidNumber, NOTHING_LIKE_IT + (0, -1, 13, BIG, (2,), 10 ** 219))))

    def test_within_of_wrong_arguments(self):
        self.check_parameters(ones_within, (norm_lot(A),), (LOT,))


if __name__ == "__main__":
    unittest.main()
