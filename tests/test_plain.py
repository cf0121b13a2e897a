"""Stage 5: fields without steps, and roots of one."""

import unittest
from itertools import product

from tests import ring
from tests.samples import BOTH, FIELDS, PLAIN, A, C, D, drawn_digit, drawn_member
from tests.test_fields import WRONG_FIELDS, WRONG_MEMBERS, long_member
from tests.tools import BIG, NOTHING_LIKE_IT, WRONG_LEVELS, WRONG_WHOLES, ErrorCase, drawer
from wildsteps.errors import InvalidField, InvalidMember, InvalidNumber, InvalidOperation
from wildsteps.fields.fields import Field, low_letter, near_member, top_letter
from wildsteps.fields.plain import digit_log, digit_order, is_plain_letter, is_root_of_one, is_turned, least_maker
from wildsteps.fields.plain import plain_letter, plain_sizes, root_of_one, turned_letter, turned_member
from wildsteps.prime.rests import least_low

FIELD = (InvalidField, WRONG_FIELDS)
LEVEL = (InvalidNumber, WRONG_LEVELS)
WRONG_DIGITS = NOTHING_LIKE_IT + (0, 1, (), (2,), (-1,), (1, 0), (True,), (None,), ("1",), [1], ((1,),), (BIG,), A)
WITHOUT_STEPS = [field for field in FIELDS if field.step_size == 1]
LEVELS = (0, 1, 2, 3, 4, 7, 20, 65, 66)


def all_digits(field):
    return list(product(range(field.prime), repeat=field.plain_size))


def rest_product(field, one, other):
    return tuple(number % field.prime for number in ring.low_field_product(field, one, other))


def with_zeros(field, low_member):
    return (low_member,) + ((0,) * field.plain_size,) * (field.step_size - 1)


def rests(member, modulus):
    return tuple(tuple(number % modulus for number in row) for row in member)


def power_near(field, member, n, modulus):
    """The power, by the test's own products, each integer a rest."""
    result = ring.whole(field, 1)
    for bit in bin(n)[2:]:
        result = rests(ring.product(field, result, result), modulus)
        if bit == "1":
            result = rests(ring.product(field, result, member), modulus)
    return result


def value_near(field, polynomial, member, modulus):
    """The value of a polynomial with integers, each integer a rest."""
    result = ring.whole(field, 0)
    for number in polynomial[::-1]:
        result = rests(ring.added(ring.product(field, result, member), ring.whole(field, number)), modulus)
    return result


def letter_to(field, k):
    return ring.power(field, top_letter(field), k)


def is_short(member):
    return all(abs(number) < BIG for row in member for number in row)


def zero_near(field, member, level):
    return ring.near(field, member, ring.whole(field, 0), level)


class RootsOfOneTest(unittest.TestCase, ErrorCase):

    def test_example_of_the_document(self):
        five = Field.plain(5, 1)
        told = [is_root_of_one(five, (2,), 3, ((57,),)), is_root_of_one(five, (2,), 3, ((2,),)),
                digit_order(five, (4,)), least_maker(five), digit_log(five, (3,)), plain_sizes(Field.plain(2, 6))]
        self.assertEqual(told, [True, False, 2, (2,), 3, (1, 2, 3, 6)])

    def test_roots_by_their_words(self):
        draw = drawer(1)
        for field in FIELDS:
            modulus = field.prime ** 67
            for digit in [drawn_digit(draw, field), (0,) * field.plain_size, (1,) + (0,) * (field.plain_size - 1)]:
                for level in LEVELS:
                    told = root_of_one(field, digit, level)
                    self.assertTrue(is_short(told))
                    # Near to the level, so z ** q - z is, and z is the only one near to the digit.
                    power = power_near(field, told, field.residues, modulus)
                    self.assertTrue(zero_near(field, ring.added(power, told, -1), level))
                    self.assertTrue(ring.near(field, told, with_zeros(field, digit), min(level, 1)))
                    self.assertIs(is_root_of_one(field, digit, level, told), True)

    def test_each_digit(self):
        for field in FIELDS:
            for digit in all_digits(field):
                told = root_of_one(field, digit, 9)
                power = power_near(field, told, field.residues, field.prime ** 12)
                self.assertTrue(zero_near(field, ring.added(power, told, -1), 9))
                self.assertTrue(ring.near(field, told, with_zeros(field, digit), 1))

    def test_powers_of_digits_are_near(self):
        for field in PLAIN + [A, C, BOTH[0]]:
            digit = least_maker(field)
            for k in (0, 1, 2, 3):
                power = power_near(field, with_zeros(field, digit), field.residues ** k, field.prime ** 9)
                self.assertIs(is_root_of_one(field, digit, k + 1, power), True)

    def test_products_of_roots(self):
        draw = drawer(2)
        for field in FIELDS:
            one, other = drawn_digit(draw, field), drawn_digit(draw, field)
            whole = ring.product(field, root_of_one(field, one, 20), root_of_one(field, other, 20))
            self.assertIs(is_root_of_one(field, rest_product(field, one, other), 20, whole), True)

    def test_every_near_member_and_nothing_else(self):
        draw = drawer(3)
        for field in FIELDS:
            digit = drawn_digit(draw, field)
            exact = root_of_one(field, digit, 66)
            for level in (1, 2, 3, 5, 8):
                near = ring.added(exact, ring.product(field, letter_to(field, level), long_member(field, 10 ** 200)))
                self.assertIs(is_root_of_one(field, digit, level, near), True)
                off = ring.added(exact, letter_to(field, level - 1))
                self.assertIs(is_root_of_one(field, digit, level, off), False)
                self.assertIs(is_root_of_one(field, digit, level - 1, off), True)
            self.assertIs(is_root_of_one(field, digit, 0, drawn_member(draw, field)), True)

    def test_roots_of_orders_that_the_prime_divides(self):
        # They are no roots of one of a digit: these have orders that divide q - 1.
        self.assertEqual(ring.power(A, ((1,), (1,)), 4), ring.whole(A, 1))
        self.assertIs(is_root_of_one(A, (1,), 66, ring.whole(A, 1)), True)
        self.assertIs(is_root_of_one(A, (1,), 2, ((1,), (1,))), False)
        self.assertIs(is_root_of_one(Field.plain(5, 1), (2,), 2, ((2,),)), False)

    def test_zero(self):
        for field in FIELDS:
            zero = (0,) * field.plain_size
            self.assertIs(is_root_of_one(field, zero, 66, ring.whole(field, 0)), True)
            self.assertIs(is_root_of_one(field, zero, 66, ring.whole(field, field.prime)), False)
            self.assert_raises_just(InvalidOperation, digit_order, field, zero)
            self.assert_raises_just(InvalidOperation, digit_log, field, zero)

    def test_judge_takes_all_values(self):
        self.check_judge(is_root_of_one, (A, (0,), 2), (((1,), (0,)), ((2,), (1,)), [(0,), (0,)], ((0,), (False,)), ((0,),)))
        self.check_judge(is_root_of_one, (D, (1, 1), 0), (((1,), (0,)), ((1, 1, 1),), (1, 1), ((1, True),)))

    def test_wrong_inputs(self):
        rules = (FIELD, (InvalidMember, WRONG_DIGITS), LEVEL)
        self.check_parameters(root_of_one, (A, (1,), 66), rules)
        self.check_parameters(is_root_of_one, (A, (1,), 66, None), rules + (None,))
        for function in (digit_order, digit_log):
            wrong = tuple(digit for digit in WRONG_DIGITS if digit != (2,)) + ((3,), (1, 1))
            self.check_parameters(function, (C, (1,)), (FIELD, (InvalidMember, wrong)))
        self.check_parameters(digit_order, (A, (1,)), rules[:2])
        self.check_parameters(least_maker, (A,), (FIELD,))
        self.check_parameters(plain_sizes, (A,), (FIELD,))
        self.assert_raises_just(InvalidMember, root_of_one, D, (0, 2), 3)
        self.assert_raises_just(InvalidMember, digit_order, D, (0,))


class DigitsTest(unittest.TestCase, ErrorCase):

    def test_orders_and_logs(self):
        for field in FIELDS:
            one = (1,) + (0,) * (field.plain_size - 1)
            orders = {}
            for digit in all_digits(field):
                if not any(digit):
                    continue
                power, order = digit, 1
                while power != one:
                    power, order = rest_product(field, power, digit), order + 1
                orders[digit] = order
                self.assertEqual(digit_order(field, digit), order)
            maker = min(digit for digit, order in orders.items() if order == field.residues - 1)
            self.assertEqual(least_maker(field), maker)
            power = one
            for k in range(field.residues - 1):
                self.assertEqual(digit_log(field, power), k)
                power = rest_product(field, power, maker)
            self.assertEqual(power, one)

    def test_small_fields(self):
        two = Field.plain(2, 1)
        self.assertEqual((least_maker(two), digit_order(two, (1,)), digit_log(two, (1,))), ((1,), 1, 0))
        self.assertEqual(least_maker(D), (0, 1))
        self.assertEqual([least_maker(Field.plain(p, 1)) for p in (3, 5, 7)], [(2,), (2,), (3,)])

    def test_no_order_that_the_prime_divides(self):
        for field in FIELDS:
            for digit in all_digits(field)[1:]:
                self.assertEqual((field.residues - 1) % digit_order(field, digit), 0)


class PlainLettersTest(unittest.TestCase, ErrorCase):

    def test_sizes(self):
        for field in FIELDS:
            f = field.plain_size
            self.assertEqual(plain_sizes(field), tuple(g for g in range(1, f + 1) if f % g == 0))

    def roots(self, field, size):
        return [digit for digit in all_digits(field)
                if not any(number % field.prime for number in
                           value_near(field, least_low(field.prime, size), with_zeros(field, digit), field.prime)[0])]

    def test_letters(self):
        for field in FIELDS:
            for size in range(1, 7):
                for level in LEVELS:
                    told = plain_letter(field, size, level)
                    if field.plain_size % size:
                        self.assertIsNone(told)
                        self.assertIs(is_plain_letter(field, size, level, ring.whole(field, 0)), False)
                        self.assertIs(is_plain_letter(field, size, level, None), False)
                        continue
                    self.assertTrue(is_short(told))
                    height = value_near(field, least_low(field.prime, size), told, field.prime ** 67)
                    self.assertTrue(zero_near(field, height, level))
                    self.assertIs(is_plain_letter(field, size, level, told), True)

    def test_all_roots_are_letters(self):
        for field in FIELDS:
            for size in plain_sizes(field):
                found = self.roots(field, size)
                self.assertEqual(len(found), size)
                polynomial = least_low(field.prime, size)
                for digit in found:
                    root = self.lifted(field, polynomial, digit, 9)
                    self.assertIs(is_plain_letter(field, size, 9, root), True)
                    near = ring.added(root, ring.product(field, letter_to(field, 9), long_member(field, 10 ** 200)))
                    self.assertIs(is_plain_letter(field, size, 9, near), True)
                    for k in (0, 1, 4, 8):
                        off = ring.added(root, letter_to(field, k))
                        self.assertIs(is_plain_letter(field, size, 9, off), False)
                        self.assertIs(is_plain_letter(field, size, k, off), True)

    def lifted(self, field, polynomial, digit, level):
        """Digit after digit: the one change for which the value stays near to 0."""
        root = with_zeros(field, digit)
        for k in range(1, level):
            if k % field.step_size:
                continue
            scale = field.prime ** (k // field.step_size)
            for change in all_digits(field):
                further = ring.added(root, with_zeros(field, tuple(scale * number for number in change)))
                if zero_near(field, value_near(field, polynomial, further, field.prime ** 12), k + field.step_size):
                    root = further
                    break
            else:
                self.fail("no digit goes on")
        return root

    def test_digits_of_letters(self):
        for field in PLAIN:
            for size in plain_sizes(field):
                order = field.prime ** size - 1
                for digit in all_digits(field)[1:]:
                    within = order % digit_order(field, digit) == 0
                    power = digit
                    for _ in range(size):
                        power = self.rest_power(field, power)
                    self.assertEqual(power == digit, within)

    def rest_power(self, field, digit):
        result = digit
        for _ in range(field.prime - 1):
            result = rest_product(field, result, digit)
        return result

    def test_level_zero(self):
        self.assertIs(is_plain_letter(A, 1, 0, ((10 ** 219,), (7,))), True)
        self.assertIs(is_plain_letter(A, 2, 0, ((1,), (7,))), False)
        self.check_judge(is_plain_letter, (A, 1, 0), (((1,),), ((1,), (True,))))
        self.check_judge(is_plain_letter, (D, 2, 1), (((1, 0),), ((0, 0),), ((0, 1), (0, 0)), [(0, 1)]))
        self.assertIs(is_plain_letter(D, 2, 1, ((0, 1),)), True)
        self.assertIs(is_plain_letter(D, 2, 1, ((-1, 10 ** 219 + 1),)), True)

    def test_wrong_inputs(self):
        sizes = (InvalidNumber, NOTHING_LIKE_IT + (0, -1, 7, BIG, (1,), (1, 1)))
        self.check_parameters(plain_letter, (A, 6, 66), (FIELD, sizes, LEVEL))
        self.check_parameters(plain_letter, (D, 2, 66), (FIELD, sizes, LEVEL))
        self.check_parameters(is_plain_letter, (D, 1, 66, ((0, 0),)), (FIELD, sizes, LEVEL, None))
        self.assertIsNone(plain_letter(Field.plain(7, 1), 6, 3))


class TurnsTest(unittest.TestCase, ErrorCase):

    TIMES = (0, 1, 2, 3, 5, 6, 7, -1, -2, -13, 10 ** 59, 1 - BIG)

    def test_letters(self):
        for field in WITHOUT_STEPS:
            for times in self.TIMES:
                for level in (0, 1, 2, 9, 66):
                    told = turned_letter(field, times, level)
                    self.assertTrue(is_short(told))
                    self.assertTrue(zero_near(field, value_near(field, field.low, told, field.prime ** 67), level))
                    exponent = field.prime ** (times % field.plain_size)
                    power = power_near(field, low_letter(field), exponent, field.prime)
                    self.assertTrue(ring.near(field, told, power, min(level, 1)))
                    self.assertIs(is_turned(field, low_letter(field), times, level, told), True)

    def test_members_go_along(self):
        draw = drawer(4)
        for field in WITHOUT_STEPS:
            for times in (1, -2, 4):
                one, other = drawn_member(draw, field), long_member(field)
                level = 66
                first, second = (turned_member(field, member, times, level) for member in (one, other))
                self.assertTrue(is_short(first) and is_short(second))
                modulus = field.prime ** 70
                whole = rests(ring.product(field, one, other), modulus)
                total = rests(ring.added(one, other), modulus)
                self.assertIs(is_turned(field, near_member(field, total, 66), times, level, ring.added(first, second)), True)
                told = near_member(field, whole if is_short(whole) else rests(whole, field.prime ** 66), 66)
                self.assertIs(is_turned(field, told, times, level, ring.product(field, first, second)), True)

    def test_roots_of_one_go_to_their_powers(self):
        for field in WITHOUT_STEPS:
            root = root_of_one(field, least_maker(field), 66)
            power = power_near(field, root, field.prime, field.prime ** 66)
            self.assertIs(is_turned(field, root, 1, 66, power), True)
            self.assertIs(is_turned(field, power, -1, 66, root), True)

    def test_turning_again_and_back(self):
        draw = drawer(5)
        for field in WITHOUT_STEPS:
            member, f = drawn_member(draw, field), field.plain_size
            self.assertIs(is_turned(field, member, f, 66, member), True)
            self.assertIs(is_turned(field, member, 0, 66, member), True)
            once = turned_member(field, member, 1, 66)
            self.assertTrue(ring.near(field, turned_member(field, once, 1, 66), turned_member(field, member, 2, 66), 66))
            self.assertTrue(ring.near(field, turned_member(field, once, -1, 66), member, 66))
            for number in (0, 1, -17, BIG - 1):
                whole = ring.whole(field, number)
                self.assertIs(is_turned(field, whole, 5, 66, whole), True)
            for size in plain_sizes(field):
                letter = plain_letter(field, size, 66)
                for times in range(1, f + 1):
                    self.assertIs(is_turned(field, letter, times, 66, letter), times % size == 0)

    def test_every_near_member_and_nothing_else(self):
        draw = drawer(6)
        for field in WITHOUT_STEPS:
            member = drawn_member(draw, field)
            told = turned_member(field, member, 1, 66)
            for level in (1, 2, 7):
                near = ring.added(told, ring.product(field, letter_to(field, level), long_member(field, 10 ** 200)))
                self.assertIs(is_turned(field, member, 1, level, near), True)
                off = ring.added(told, letter_to(field, level - 1))
                self.assertIs(is_turned(field, member, 1, level, off), False)
            self.assertIs(is_turned(field, member, 1, 0, drawn_member(draw, field)), True)

    def test_near_to_the_power_to_the_level_one_alone(self):
        member = ((0, 1),)
        power = ring.power(D, member, 2)
        self.assertIs(is_turned(D, ((2, 1),), 1, 1, ring.power(D, ((2, 1),), 2)), True)
        self.assertIs(is_turned(D, ((2, 1),), 1, 2, ring.power(D, ((2, 1),), 2)), False)
        self.assertIs(is_turned(D, member, 1, 1, power), True)

    def test_fields_with_steps(self):
        one = ring.whole(A, 1)
        for times, level in ((0, 0), (1, 66)):
            self.assert_raises_just(InvalidOperation, turned_letter, A, times, level)
            self.assert_raises_just(InvalidOperation, turned_member, A, one, times, level)
            self.assert_raises_just(InvalidOperation, is_turned, A, one, times, level, one)
        self.assert_refused(InvalidNumber, True, turned_letter, (A, True, 3))
        self.assert_refused(InvalidNumber, 67, turned_letter, (A, 1, 67))
        self.assert_raises_just(InvalidMember, turned_member, A, ((1,),), 1, 3)
        self.assert_refused(InvalidNumber, 67, turned_member, (A, one, 1, 67))
        self.assert_refused(InvalidNumber, None, is_turned, (A, one, None, 67, one))

    def test_judge_takes_all_values(self):
        self.check_judge(is_turned, (D, ((3, 1),), 1, 3), (((3, 1),), (3, 1), ((3, 1), (0, 0)), [(3, 1)], ((True, 1),)))
        self.check_judge(is_turned, (D, ((3, 1),), 1, 0), (((3, 1, 0),), ((True, 1),), ((3,),)))

    def test_wrong_inputs(self):
        times = (InvalidNumber, WRONG_WHOLES)
        members = (InvalidMember, WRONG_MEMBERS + (((1,),), ((1, 2, 3),)))
        wrong = tuple(member for member in members[1] if member != ((1, 2),))
        members = (InvalidMember, wrong)
        self.check_parameters(turned_letter, (D, -7, 66), (FIELD, times, LEVEL))
        self.check_parameters(turned_member, (D, ((1, 2),), -7, 66), (FIELD, members, times, LEVEL))
        self.check_parameters(is_turned, (D, ((1, 2),), -7, 66, ((1, 2),)), (FIELD, members, times, LEVEL, None))


if __name__ == "__main__":
    unittest.main()
