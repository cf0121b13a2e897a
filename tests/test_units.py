"""Stage 15: units, powers and exponentials."""

import unittest
from math import comb, factorial, gcd, lcm

from tests import over, ring
from tests.samples import FIELDS, PLAIN, A, B, C, D, drawn_member
from tests.test_fields import WRONG_FIELDS, WRONG_MEMBERS, long_member
from tests.tools import BIG, NOTHING_LIKE_IT, WRONG_LEVELS, ErrorCase, at_least, drawer, exponent
from wildsteps.errors import InvalidField, InvalidMember, InvalidNumber, InvalidOperation
from wildsteps.fields.fields import Field
from wildsteps.fields.plain import is_root_of_one
from wildsteps.roots.roots import depth_of, fence, is_fence, is_near_root, near_root
from wildsteps.units import units
from wildsteps.units.units import exponential, is_exponential, is_logarithm, is_ones_maker, is_power_root, is_unit
from wildsteps.units.units import is_unit_inverse, logarithm, ones_maker, ones_number, power_index, power_root
from wildsteps.units.units import unit_inverse, unit_level

FIELD, MEMBER, LEVEL = (InvalidField, WRONG_FIELDS), (InvalidMember, WRONG_MEMBERS), (InvalidNumber, WRONG_LEVELS)
EXPONENT = (InvalidNumber, NOTHING_LIKE_IT + (0, 7, -1, BIG, (1,), (1, 2), 10 ** 219))
WRONG_VALUES = (0, 1, (), ((1,),), ((1,), ()), ((True,), (0,)), ((1,), (0,), (0,)), [(1,), (0,)], A)
# Made by roots of one of the orders 3 (for 3), 4, 8 (for 2), 5 (for 5), 9 (for 3), 7 (for 7), as z - 1.
ROOTED = [
    (Field.of(3, (3, 3, 1)), 6), (Field.of(2, (2, 2, 1)), 4), (Field.of(2, (2, 4, 6, 4, 1)), 8),
    (Field.of(5, (5, 10, 10, 5, 1)), 20), (Field.of(3, (3, 9, 18, 21, 15, 6, 1)), 18),
    (Field.of(7, (7, 21, 35, 35, 21, 7, 1)), 42), (Field(2, (1, 1, 1), ((2, 0), (2, 0), (1, 0))), 12),
    (Field(3, (1, 0, 1), ((3, 0), (3, 0), (1, 0))), 24), (Field.of(2, (-2, 0, 1)), 2),
]
SOME = [field for field, _ in ROOTED] + FIELDS[::2]


def one(field):
    return ring.whole(field, 1)


def step_power(field, k):
    return ring.power(field, ring.letters(field)[1], k)


def drawn_unit(draw, field, size=10):
    while True:
        member = drawn_member(draw, field, size)
        if ring.value(field, member) == 0:
            return member


def drawn_above(draw, field, k):
    """A member of a value of at least k, with small integers."""
    product = ring.product(field, drawn_member(draw, field, 3), step_power(field, k))
    depth = field.prime ** (k // field.step_size + 4)
    return tuple(tuple(entry % depth for entry in row) for row in product)


def least_value(field):
    """The least value for which exponentials are told."""
    return field.step_size // (field.prime - 1) + 1


def power_to(field, member, n, modulus):
    result = one(field)
    for bit in bin(n)[2:]:
        result = ring.product(field, result, result)
        if bit == "1":
            result = ring.product(field, result, member)
        result = tuple(tuple(entry % modulus for entry in row) for row in result)
    return result


def wild_ones(field, exponent_of_order):
    """How many roots of one of an order that divides p ** s there are, by digits: level by level what can be one."""
    p, e = field.prime, field.step_size
    n, top = p ** exponent_of_order, 3 * e + 2
    modulus = p ** (exponent_of_order + top // e + 3)
    members = [one(field)]
    for k in range(1, top):
        # Near to a root to the level k + 1 the power less 1 has at least the least value of all its terms.
        bound = min(e * exponent(p, comb(n, j)) + (k + 1) * j for j in range(1, n + 1))
        step = step_power(field, k)
        longer = [ring.added(member, ring.product(field, over.with_zeros(field, digit), step))
                  for member in members for digit in over.all_digits(field)]
        members = [member for member in longer
                   if at_least(ring.value(field, ring.added(power_to(field, member, n, modulus), one(field), -1)), bound)]
    return len(members)


class UnitsTest(unittest.TestCase, ErrorCase):

    def test_constant_and_examples(self):
        self.assertEqual(units.MAX_POWER, 6)
        self.assertEqual(
            [unit_level(A, ((3,), (2,))), unit_level(C, ((1,), (0,), (3,))),
             [ones_number(field) for field in (A, B, C, D)], [power_index(field, 2) for field in (A, C, D)]],
            [2, 5, [4, 2, 2, 6], [16, 4, 16]])

    def test_units_are_members_of_the_value_zero(self):
        draw = drawer(151)
        for field in FIELDS:
            for member in [drawn_member(draw, field) for _ in range(6)] + [ring.whole(field, 0), one(field)]:
                self.assertIs(is_unit(field, member), ring.value(field, member) == 0)
            unit = ring.added(one(field), over.scaled(drawn_member(draw, field), field.prime * BIG ** 3))
            self.assertIs(is_unit(field, unit), True)
            self.assertIs(is_unit(field, over.scaled(unit, field.prime)), False)

    def test_levels(self):
        draw = drawer(152)
        for field in FIELDS:
            self.assertIsNone(unit_level(field, one(field)))
            for k in (1, 2, 5):
                u = ring.added(one(field), drawn_above(draw, field, k))
                self.assertEqual(unit_level(field, u), ring.value(field, ring.added(u, one(field), -1)))
            for _ in range(3):
                u = drawn_unit(draw, field)
                self.assertEqual(unit_level(field, u), ring.value(field, ring.added(u, one(field), -1)))

    def test_products_and_inverses_keep_levels(self):
        draw = drawer(153)
        for field in FIELDS[::2]:
            for k in (0, 1, 2, 3):
                u, w = (ring.added(one(field), drawn_above(draw, field, k)) for _ in range(2))
                if not is_unit(field, u) or not is_unit(field, w):
                    continue
                product = ring.product(field, u, w)
                self.assertTrue(at_least(unit_level(field, product), k))
                inverse = unit_inverse(field, u, k + 20)
                self.assertTrue(at_least(unit_level(field, inverse), k))
                digits = [over.digit_at(field, x, k) for x in (u, w, product)]
                if k > 0:
                    added = tuple((a + b) % field.prime for a, b in zip(*digits[:2]))
                    self.assertEqual(digits[2], added)
                else:
                    rest = ring.low_field_product(field, digits[0], digits[1])
                    self.assertEqual(digits[2], tuple(entry % field.prime for entry in rest))

    def test_inverses(self):
        draw = drawer(154)
        for field in FIELDS:
            members = [drawn_unit(draw, field), drawn_unit(draw, field, 10 ** 9), one(field)]
            members.append(ring.added(one(field), over.scaled(long_member(field, BIG // 9), field.prime)))
            for member in members:
                for level in (0, 1, 2, 3, 17, 66):
                    inverse = unit_inverse(field, member, level)
                    product = ring.product(field, member, inverse)
                    self.assertTrue(ring.near(field, product, one(field), level))
                    self.assertTrue(all(abs(entry) < BIG for row in inverse for entry in row))
                    self.assertIs(is_unit_inverse(field, member, level, inverse), True)
                    far = ring.added(inverse, over.scaled(step_power(field, level), field.prime ** 99 + 1))
                    self.assertIs(is_unit_inverse(field, member, level, far), True)
                    if level > 0:
                        wrong = ring.added(inverse, step_power(field, level - 1))
                        self.assertIs(is_unit_inverse(field, member, level, wrong), False)

    def test_inverses_to_all_levels(self):
        for field in (A, C, D):
            member = ring.added(one(field), over.scaled(ring.letters(field)[1], 5))
            for level in range(67):
                inverse = unit_inverse(field, member, level)
                self.assertTrue(ring.near(field, ring.product(field, member, inverse), one(field), level))
                self.assertIs(is_unit_inverse(field, member, level, inverse), True)

    def test_wrong_arguments(self):
        unit = ((3,), (2,))
        no_units = (InvalidOperation, (((0,), (0,)), ((2,), (1,)), ((0,), (1,)), ((4,), (4,))))
        self.check_judge(is_unit, (A,), WRONG_VALUES + (((0,), (1,)), ((2,), (1,)), ((BIG * 2,), (1,))))
        self.check_parameters(is_unit, (A, unit), (FIELD, None))
        self.check_parameters(unit_level, (A, unit), (FIELD, MEMBER))
        self.check_parameters(unit_level, (A, unit), (FIELD, no_units))
        for rule in (MEMBER, no_units):
            self.check_parameters(unit_inverse, (A, unit, 5), (FIELD, rule, LEVEL))
            self.check_parameters(is_unit_inverse, (A, unit, 5, unit), (FIELD, rule, LEVEL, None))
        self.check_judge(is_unit_inverse, (A, unit, 5), WRONG_VALUES)
        self.check_judge(is_unit_inverse, (A, unit, 0), ((), ((1,),), ((True,), (0,))))


class OnesTest(unittest.TestCase, ErrorCase):

    def test_numbers_of_made_fields(self):
        for field, number in ROOTED:
            self.assertEqual(ones_number(field), number)

    def test_numbers_against_a_search_by_digits(self):
        for field in [field for field, _ in ROOTED if field.degree < 6] + PLAIN[:2] + PLAIN[6:8] + FIELDS[15:22]:
            s = 4 if field.prime == 2 else 2
            if field.residues ** 2 * field.prime ** s > 700:
                continue
            self.assertEqual(ones_number(field), (field.residues - 1) * wild_ones(field, s), str(field))

    def test_numbers_of_fields_without_steps(self):
        for field in PLAIN:
            more = 2 if field.prime == 2 else 1
            self.assertEqual(ones_number(field), (field.residues - 1) * more)

    def test_told_makers(self):
        for field in SOME:
            many = ones_number(field)
            for level in (1, 5, 66):
                maker = ones_maker(field, level)
                self.assertTrue(all(abs(entry) < BIG for row in maker for entry in row))
                self.assertIs(is_ones_maker(field, level, maker), True)
            modulus = field.prime ** (66 // field.step_size + 2)
            powers = [power_to(field, maker, k, modulus) for k in range(1, many + 1)]
            # They differ at a lesser level, and the last one is 1.
            self.assertTrue(ring.near(field, powers[-1], one(field), 66))
            marks = {tuple(tuple(entry % field.prime ** 8 for entry in row) for row in power) for power in powers}
            self.assertEqual(len(marks), many)

    def test_judged_makers(self):
        for field in [field for field, _ in ROOTED] + [PLAIN[0], PLAIN[1], PLAIN[6], PLAIN[9], B, C]:
            many = ones_number(field)
            maker = ones_maker(field, 66)
            modulus = field.prime ** (66 // field.step_size + 2)
            for level in (1, 2, 3, 7, 66):
                makers = [power_to(field, maker, k, modulus) for k in range(1, many + 1) if gcd(k, many) == 1]
                for k in range(1, many + 1):
                    power = power_to(field, maker, k, modulus)
                    wanted = any(ring.near(field, power, other, level) for other in makers)
                    self.assertIs(is_ones_maker(field, level, power), wanted)
                near = ring.added(maker, over.scaled(step_power(field, level), BIG ** 2))
                self.assertIs(is_ones_maker(field, level, near), True)
                far = ring.added(maker, step_power(field, level - 1))
                self.assertIs(is_ones_maker(field, level, far),
                              any(ring.near(field, far, other, level) for other in makers))
            self.assertIs(is_ones_maker(field, 0, ring.whole(field, 0)), True)

    def test_values_of_roots_of_one(self):
        # A root of one of order p ** s has, less 1, the value e / ((p - 1) p ** (s - 1)).
        for field, many in ROOTED:
            p, e = field.prime, field.step_size
            s = exponent(p, many)
            maker = ones_maker(field, 66)
            modulus = p ** (66 // e + 2)
            for k in range(1, s + 1):
                root = power_to(field, maker, many // p ** k, modulus)
                self.assertEqual(unit_level(field, root) * (p - 1) * p ** (k - 1), e)
        # So some root of one other than 1 has the first digit of 1.
        self.assertEqual(unit_level(B, ring.whole(B, -1)), 2)
        self.assertIs(is_root_of_one(B, (1,), 2, ring.whole(B, -1)), True)

    def test_wrong_arguments(self):
        self.check_parameters(ones_number, (A,), (FIELD,))
        self.check_parameters(ones_maker, (A, 5), (FIELD, LEVEL))
        self.check_parameters(is_ones_maker, (A, 5, ((1,), (1,))), (FIELD, LEVEL, None))
        self.check_judge(is_ones_maker, (A, 5), WRONG_VALUES + (((0,), (0,)), ((2,), (1,)), ((1,), (0,))))


class PowersTest(unittest.TestCase, ErrorCase):

    def test_index(self):
        for field in SOME:
            many = ones_number(field)
            for n in range(1, 7):
                roots = sum(1 for k in range(many) if k * n % many == 0)
                wanted = n * field.prime ** (field.degree * exponent(field.prime, n)) * roots
                self.assertEqual(power_index(field, n), wanted)
            self.assertEqual(power_index(field, 1), 1)

    def test_powers_have_roots(self):
        draw = drawer(155)
        for field in SOME:
            for n in range(1, 7):
                base = drawn_unit(draw, field, 5)
                member = ring.power(field, base, n)
                paper = power_root(field, member, n)
                self.assertEqual(paper[0], "root")
                self.check_paper(field, member, n, paper)
                self.assertIs(is_power_root(field, member, n, ("root", base)), True)
                near = ring.added(base, step_power(field, 2 * field.step_size * exponent(field.prime, n) + 1))
                self.assertIs(is_power_root(field, member, n, ("root", near)), True)

    def check_paper(self, field, member, n, paper):
        g = (over.scaled(member, -1),) + (ring.whole(field, 0),) * (n - 1) + (one(field),)
        if paper[0] == "root":
            self.assertTrue(over.is_near_root(field, g, paper[1]))
            self.assertIs(is_near_root(field, g, paper[1]), True)
        else:
            self.assertIs(is_fence(field, g, paper[1]), True)
            self.assertIsNone(near_root(field, g))
            self.assertEqual(paper[1], fence(field, g))
        self.assertIs(is_power_root(field, member, n, paper), True)
        self.assertIs(is_power_root(field, member, n, (paper[0],)), False)
        self.assertIs(is_power_root(field, member, n, ("other", paper[1])), False)
        self.assertIs(is_power_root(field, member, n, list(paper)), False)
        other = "fence" if paper[0] == "root" else "root"
        self.assertIs(is_power_root(field, member, n, (other, paper[1])), False)

    def test_other_members_have_fences(self):
        draw = drawer(156)
        words = []
        for field in SOME[:24]:
            for n in (2, 3, 4, 5, 6):
                for member in (drawn_unit(draw, field, 6), ring.letters(field)[1]):
                    paper = power_root(field, member, n)
                    words.append(paper[0])
                    self.check_paper(field, member, n, paper)
                    if ring.value(field, member) % n:
                        self.assertEqual(paper[0], "fence")
        self.assertTrue(words.count("root") > 20 and words.count("fence") > 60)

    def test_index_by_drawn_units(self):
        # Of all units the squares are a part of the index over 2, so both papers come up.
        draw = drawer(157)
        for field in (A, C, D):
            members = [tuple(tuple(draw.randint(0, 10 ** 6) for _ in row) for row in one(field)) for _ in range(400)]
            found = [power_root(field, member, 2)[0] for member in members if is_unit(field, member)]
            self.assertAlmostEqual(found.count("root") * power_index(field, 2) / 2 / len(found), 1, delta=0.5)

    def test_units_near_to_one_are_powers(self):
        draw = drawer(158)
        for field in SOME:
            for n in (2, 3, 4, 5, 6):
                k = 2 * field.step_size * exponent(field.prime, n) + 1
                unit = ring.added(one(field), drawn_above(draw, field, k))
                paper = power_root(field, unit, n)
                self.assertEqual(paper[0], "root")
                self.assertIs(is_power_root(field, unit, n, ("root", one(field))), True)

    def test_first_digit_is_not_enough(self):
        self.assertEqual(power_root(Field.plain(2, 1), ((3,),), 2)[0], "fence")
        self.assertEqual(power_root(Field.plain(3, 1), ((4,),), 3)[0], "fence")

    def test_values_near_to_papers(self):
        self.assertEqual(power_root(A, ((-1,), (0,)), 2)[0], "root")
        self.assertIs(is_power_root(A, ((-1,), (0,)), 2, ("root", ((1,), (1,)))), True)
        self.assertIs(is_power_root(A, ((-1,), (0,)), 2, ("root", ((1,), (0,)))), False)
        word, told = power_root(A, ((3,), (0,)), 2)
        self.assertEqual(word, "fence")
        self.assertIs(is_power_root(A, ((3,), (0,)), 2, (word, told[1:])), False)
        self.assertIs(is_power_root(A, ((3,), (0,)), 2, (word, told[::-1])), False)
        wrong = ((told[0][0], told[0][1] + 1),) + told[1:]
        self.assertIs(is_power_root(A, ((3,), (0,)), 2, (word, wrong)), False)

    def test_great_depths(self):
        two = Field.plain(2, 1)
        for value, n, limit in ((61, 2, None), (62, 2, None), (63, 2, None), (64, 2, None), (65, 2, 66), (34, 3, 66),
                                (33, 3, None), (13, 6, 66), (5, 6, None)):
            member = ((3 * 2 ** value,),)
            g = (over.scaled(member, -1),) + (((0,),),) * (n - 1) + (((1,),),)
            self.assertEqual(depth_of(two, g) > 66, limit is not None)
            if limit is None:
                self.check_paper(two, member, n, power_root(two, member, n))
            else:
                self.assert_too_many(limit, power_root, two, member, n)
            # The judge has no such limit.
            self.assertIs(is_power_root(two, member, n, ("root", ((1,),))), False)
        self.assertIs(is_power_root(two, ((2 ** 80,),), 2, ("root", ((2 ** 40,),))), True)
        self.assertIs(is_power_root(two, ((2 ** 80,),), 2, ("root", ((2 ** 40 + 2 ** 300,),))), True)

    def test_wrong_arguments(self):
        member, zero = ((3,), (2,)), ((0,), (0,))
        self.check_parameters(power_index, (A, 2), (FIELD, EXPONENT))
        for rule in (MEMBER, (InvalidOperation, (zero,))):
            self.check_parameters(power_root, (A, member, 2), (FIELD, rule, EXPONENT))
            self.check_parameters(is_power_root, (A, member, 2, ("root", member)), (FIELD, rule, EXPONENT, None))
        wrongs = WRONG_VALUES + (("root",), ("fence",), ("root", None), ("fence", ()), ("root", member, member), ("", ()))
        self.check_judge(is_power_root, (A, ((3,), (0,)), 2), wrongs)
        self.check_judge(is_power_root, (A, ((-1,), (0,)), 2), wrongs)
        for n in (1, 6):
            self.assertIn(power_root(A, member, n)[0], ("root", "fence"))


class SeriesTest(unittest.TestCase, ErrorCase):

    def check_exponential(self, field, member, level, told):
        """Against the sum of m ** k K! / k! up to a K behind which nothing matters."""
        p, e, v = field.prime, field.step_size, ring.value(field, member)
        most = 0 if v is None else next(K for K in range(1, 999) if all(
            k * v - e * exponent(p, factorial(k)) >= level for k in range(K + 1, K + 3 + p)) and
            (K + 1) * (v * (p - 1) - e) + e >= level * (p - 1))
        total, power = ring.whole(field, 0), one(field)
        for k in range(most + 1):
            total = ring.added(total, over.scaled(power, factorial(most) // factorial(k)))
            power = ring.product(field, power, member)
        told = over.scaled(told, factorial(most))
        self.assertTrue(ring.near(field, total, told, level + e * exponent(p, factorial(most))))

    def test_exponentials(self):
        draw = drawer(160)
        for field in FIELDS:
            least = least_value(field)
            self.assertEqual(exponential(field, ring.whole(field, 0), 66), one(field))
            for k, level in ((0, 0), (0, 1), (0, 6), (1, 9), (3, 14)):
                member = drawn_above(draw, field, least + k)
                told = exponential(field, member, level)
                self.check_exponential(field, member, level, told)
                self.assertIs(is_exponential(field, member, level, told), True)
                near = ring.added(told, over.scaled(step_power(field, level), BIG))
                self.assertIs(is_exponential(field, member, level, near), True)
                if level > 0:
                    far = ring.added(told, step_power(field, level - 1))
                    self.assertIs(is_exponential(field, member, level, far), False)

    def test_exponentials_to_great_levels(self):
        for field in (PLAIN[0], PLAIN[6], PLAIN[9], PLAIN[11], A, C, D):
            member = step_power(field, least_value(field))
            told = exponential(field, member, 66)
            self.check_exponential(field, member, 66, told)
            self.assertTrue(all(abs(entry) < BIG for row in told for entry in row))
            self.assertEqual(unit_level(field, told), least_value(field))

    def test_sums_and_products(self):
        draw = drawer(161)
        for field in FIELDS:
            least = least_value(field)
            one_, other = drawn_above(draw, field, least), drawn_above(draw, field, least + 1)
            left, right = exponential(field, one_, 66), exponential(field, other, 66)
            both = ring.product(field, left, right)
            self.assertIs(is_exponential(field, ring.added(one_, other), 66, both), True)
            self.assertIs(is_logarithm(field, left, 60, one_), True)
            unit = ring.added(one(field), other)
            log = logarithm(field, unit, 66)
            self.assertTrue(all(abs(entry) < BIG for row in log for entry in row))
            self.assertIs(is_exponential(field, log, 60, unit), True)
            product = tuple(tuple(entry % field.prime ** 40 for entry in row) for row in ring.product(field, left, unit))
            self.assertIs(is_logarithm(field, product, 40, ring.added(one_, log)), True)

    def check_logarithm(self, field, unit, level, told):
        p, e = field.prime, field.step_size
        base = ring.added(unit, one(field), -1)
        v = ring.value(field, base)
        most = 0 if v is None else max(
            [k for k in range(1, 200) if k * v - e * exponent(p, k) < level], default=0)
        if most == 0:
            self.assertTrue(ring.near(field, told, ring.whole(field, 0), level))
            return
        common = lcm(*range(1, most + 1))
        total, power = ring.whole(field, 0), one(field)
        for k in range(1, most + 1):
            power = ring.product(field, power, base)
            total = ring.added(total, over.scaled(power, common // k), (-1) ** (k - 1))
        self.assertTrue(ring.near(field, total, over.scaled(told, common), level + e * exponent(p, common)))

    def test_logarithms(self):
        draw = drawer(162)
        for field in FIELDS:
            least = least_value(field)
            self.assertEqual(logarithm(field, one(field), 66), ring.whole(field, 0))
            for k, level in ((0, 0), (0, 1), (0, 6), (1, 9), (3, 14)):
                unit = ring.added(one(field), drawn_above(draw, field, least + k))
                told = logarithm(field, unit, level)
                self.check_logarithm(field, unit, level, told)
                self.assertIs(is_logarithm(field, unit, level, told), True)
                near = ring.added(told, over.scaled(step_power(field, level), BIG))
                self.assertIs(is_logarithm(field, unit, level, near), True)
                if level > 0:
                    far = ring.added(told, step_power(field, level - 1))
                    self.assertIs(is_logarithm(field, unit, level, far), False)
        for field in (PLAIN[0], PLAIN[6], PLAIN[9], PLAIN[11]):
            unit = ring.added(one(field), step_power(field, least_value(field)))
            self.check_logarithm(field, unit, 66, logarithm(field, unit, 66))

    def test_the_edge_is_not_let(self):
        for field in FIELDS:
            edge = field.step_size // (field.prime - 1)
            for k in range(edge + 1):
                member = step_power(field, k)
                self.assert_raises_just(InvalidOperation, exponential, field, member, 67)
                self.assert_raises_just(InvalidOperation, is_exponential, field, member, 67, member)
                unit = ring.added(one(field), member)
                self.assert_raises_just(InvalidOperation, logarithm, field, unit, 67)
                self.assert_raises_just(InvalidOperation, is_logarithm, field, unit, 67, unit)
            exponential(field, step_power(field, edge + 1), 20)
            logarithm(field, ring.added(one(field), step_power(field, edge + 1)), 20)
        self.assert_raises_just(InvalidOperation, exponential, PLAIN[0], ((2,),), 5)
        self.assert_raises_just(InvalidOperation, logarithm, A, ((0,), (0,)), 5)

    def test_long_integers(self):
        for field in (A, C, D):
            member = over.scaled(long_member(field, BIG // 1000), field.prime ** 2)
            self.assertIs(is_exponential(field, member, 20, exponential(field, member, 20)), True)
            unit = ring.added(one(field), member)
            self.assertIs(is_logarithm(field, unit, 20, logarithm(field, unit, 20)), True)

    def test_wrong_arguments(self):
        member, unit = ((4,), (4,)), ((5,), (4,))
        edges = (InvalidOperation, (((2,), (0,)), ((1,), (0,)), ((0,), (1,))))
        for rule in (MEMBER, edges):
            self.check_parameters(exponential, (A, member, 5), (FIELD, rule, LEVEL))
            self.check_parameters(is_exponential, (A, member, 5, unit), (FIELD, rule, LEVEL, None))
        edges = (InvalidOperation, (((2,), (0,)), ((3,), (0,)), ((0,), (1,)), ((0,), (0,))))
        for rule in (MEMBER, edges):
            self.check_parameters(logarithm, (A, unit, 5), (FIELD, rule, LEVEL))
            self.check_parameters(is_logarithm, (A, unit, 5, member), (FIELD, rule, LEVEL, None))
        self.check_judge(is_exponential, (A, member, 5), WRONG_VALUES)
        self.check_judge(is_logarithm, (A, unit, 5), WRONG_VALUES)


if __name__ == "__main__":
    unittest.main()
