"""Stage 8: leads from field to field, and what earlier stages say of them."""

import unittest
from time import perf_counter

from tests import over, ring
from tests.samples import BOTH, FIELDS, PLAIN, STEPS, A, B, C, D, drawn_member
from tests.test_fields import WRONG_FIELDS, WRONG_MEMBERS
from tests.test_rests import irreducible_ones
from tests.test_tops import SIZES, member_of_value_one
from tests.tools import BIG, NOTHING_LIKE_IT, WRONG_LEVELS, ErrorCase, at_least, deep, drawer, exponent
from wildsteps.errors import InvalidField, InvalidMap, InvalidMember, InvalidNumber, InvalidOperation
from wildsteps.fields.fields import Field, low_letter, near_member, norm_of, polynomial_of, top_letter
from wildsteps.fields.plain import turned_letter, turned_member
from wildsteps.fields.tops import field_by, tame_field, tame_kind, tame_kinds
from wildsteps.roots.maps import all_leads, are_alike, are_all_leads, are_bars, bars, does_lead, is_lead, lead
from wildsteps.roots.maps import led_member
from wildsteps.roots.roots import fence, roots_number

FIELD, MEMBER, LEVEL = (InvalidField, WRONG_FIELDS), (InvalidMember, WRONG_MEMBERS), (InvalidNumber, WRONG_LEVELS)
ZERO, ONE = ((0,), (0,)), ((1,), (0,))
GOOD = (ZERO, ((0,), (1,)))
WRONG_PAIRS = NOTHING_LIKE_IT + (
    0, (), ZERO, (ZERO,), (ZERO, ZERO), (ZERO, ((0,), (1,)), ZERO), [ZERO, ((0,), (1,))], (ZERO, [(0,), (1,)]),
    (ZERO, ((0,), [1])), (ZERO, ((0,), (True,))), (((False,), (0,)), ((0,), (1,))), (ONE, ((0,), (1,))),
    (ZERO, ((1,), (1,))), (ZERO, ((0, 0), (1, 0))), (ZERO, ((BIG * 2 ** 60,), (1,))), (((BIG * 2 ** 60,), (0,)), GOOD[1]),
    (A, A), (ZERO, A), A, {ZERO: GOOD[1]}, ((0,), (1,)), deep(1, 4))
ROUND, SQUARES = Field.of(3, (3, 0, -3, 1)), Field.of(2, (2, 4, 6, 4, 1))
SIX = Field.of(3, (3, 0, 0, 0, 0, 0, 1))
CUBE = Field(2, (1, 1, 1), ((-2, 0), (0, 0), (0, 0), (1, 0)))
MORE = FIELDS + [ROUND, SQUARES, SIX, CUBE]


def pairs_of_fields(fields):
    return [(one, other) for one in fields for other in fields if one.prime == other.prime]


def image_of_low(field, u, low_member):
    total, power = ring.whole(field, 0), ring.whole(field, 1)
    for number in low_member:
        total = ring.added(total, over.scaled(power, number))
        power = ring.product(field, power, u)
    return total


def top_with(field, further, u):
    return tuple(image_of_low(further, u, row) for row in field.top)


def three_values(field, further, pair):
    u, w = pair
    h = top_with(field, further, u)
    return (ring.value(further, image_of_low(further, u, field.low)), ring.value(further, over.value_at(further, h, w)),
            ring.value(further, over.value_at(further, over.derivative(h), w)))


def is_lead_by_values(field, further, pair):
    a, b, c = three_values(field, further, pair)
    return c is not None and at_least(a, 2 * c + 1) and at_least(b, 2 * c + 1)


def maps_by_roots(field, further):
    """A map takes t + r, whose powers tell all, to a root of its polynomial."""
    number = polynomial_of(field, ring.added(low_letter(field), top_letter(field)))
    return roots_number(further, over.whole_over(further, number))


def alike_ones(draw, field):
    """Fields alike to a field, by other low polynomials and other members of value 1."""
    found = [field_by(field, member_of_value_one(draw, field))]
    low = tuple(n + field.prime * draw.randint(-2, 2) for n in field.low[:-1]) + (1,)
    e, f = field.step_size, field.plain_size
    if all(not any(row[1:]) for row in field.top):
        lows = [one for one in irreducible_ones(field.prime, f) if len(one) == f + 1]
        found.append(Field(field.prime, draw.choice(lows) if f > 1 else low, field.top))
    deep_one = tuple(tuple(n + field.prime ** 30 * draw.randint(-5, 5) for n in row) for row in field.top[:-1])
    found.append(Field(field.prime, field.low, deep_one + field.top[-1:]))
    return [one for one in found if one.step_size == e]


class LeadTest(unittest.TestCase, ErrorCase):

    def test_examples(self):
        self.assertEqual(
            [is_lead(A, A, (ZERO, ((0,), (1,)))), is_lead(A, A, (ZERO, ((-2,), (-1,)))), is_lead(A, A, (ZERO, ZERO)),
             does_lead(A, B), are_alike(B, Field.of(2, (6, 6, 1)))], [True, True, False, False, True])

    def test_all_pairs_of_fields(self):
        counts = {True: 0, False: 0}
        for field, further in pairs_of_fields(MORE):
            told, pair, barred = all_leads(field, further), lead(field, further), bars(field, further)
            counts[pair is not None] += 1
            self.assertEqual((pair is None, does_lead(field, further)), (barred is not None, pair is not None))
            self.assertEqual(len(told), maps_by_roots(field, further))
            self.assertIs(are_alike(field, further), pair is not None and field.degree == further.degree)
            for one in told + ((pair,) if pair else ()):
                self.assertTrue(is_lead_by_values(field, further, one))
                self.assertIs(is_lead(field, further, one), True)
                self.assertTrue(all(abs(n) < BIG for member in one for row in member for n in row))
            self.assertIs(are_all_leads(field, further, told), True)
            if pair is None:
                self.assertIs(are_bars(field, further, barred), True)
                self.assertEqual((told, are_all_leads(field, further, ())), ((), True))
            else:
                self.assertIs(are_bars(field, further, ()), False)
                self.assertEqual((further.plain_size % field.plain_size, further.step_size % field.step_size), (0, 0))
        self.assertGreater(min(counts.values()), 100)

    def test_judge_by_values(self):
        draw = drawer(1)
        found = {True: 0, False: 0}
        for field, further in pairs_of_fields(MORE):
            told = all_leads(field, further)
            for _ in range(2):
                if told and draw.random() < 0.8:
                    u, w = draw.choice(told)
                    k, m = draw.randint(0, 8), draw.randint(0, 8)
                    u = ring.added(u, ring.product(further, over.letter(further, k), drawn_member(draw, further, 2)))
                    w = ring.added(w, ring.product(further, over.letter(further, m), drawn_member(draw, further, 2)))
                else:
                    u, w = drawn_member(draw, further, 3), drawn_member(draw, further, 3)
                by_values = is_lead_by_values(field, further, (u, w))
                found[by_values] += 1
                self.assertIs(is_lead(field, further, (u, w)), by_values)
        self.assertGreater(min(found.values()), 50)

    def test_long_leads_and_wrong_ones(self):
        far = (((2 ** 700,), (0,)), ((2 ** 700,), (1 + 2 ** 701,)))
        self.assertIs(is_lead(A, A, far), True)
        self.assertIs(are_all_leads(A, A, ((ZERO, ((-2,), (-1,))), far)), True)
        self.assert_raises_just(InvalidMap, led_member, A, A, far, ONE, 5)
        self.check_judge(is_lead, (A, A), [wrong for wrong in WRONG_PAIRS if str(BIG * 2 ** 60) not in str(wrong)])
        self.assertIs(is_lead(A, A, (ZERO, ((BIG * 2 ** 60,), (1,)))), True)

    def test_a_slope_of_0(self):
        # h' is 0 at the member, and h as well.
        self.assertIs(is_lead(A, A, (ZERO, ((-1,), (0,)))), False)
        self.assertIs(is_lead(SQUARES, SQUARES, (over.scaled(over.letter(SQUARES, 0), 0), ring.whole(SQUARES, -1))), False)

    def test_what_is_not_true(self):
        # Equal sizes and slopes do not make fields alike; nor does a degree that divides the other one.
        a, b, c = three_values(A, A, GOOD)
        self.assertEqual(c, three_values(B, B, GOOD)[2])
        self.assertEqual((A.step_size, A.plain_size), (B.step_size, B.plain_size))
        self.assertIs(are_alike(A, B), False)
        self.assertEqual((A.degree, SQUARES.degree), (2, 4))
        self.assertIn(False, [does_lead(one, SQUARES) for one in (A, B, D)])
        # The value of h alone is not enough.
        pair = (((0, 0),), ((2, 0),))
        self.assertEqual(three_values(D, D, pair), (0, None, 0))
        self.assertIs(is_lead(D, D, pair), False)

    def test_into_themselves_and_alike_ones(self):
        draw = drawer(2)
        for field in MORE:
            letters = (low_letter(field), top_letter(field))
            self.assertIs(is_lead(field, field, letters), True)
            many = len(all_leads(field, field))
            self.assertEqual(field.degree % many, 0)
            for other in alike_ones(draw, field):
                self.assertTrue(are_alike(field, other) and are_alike(other, field))
                self.assertEqual((len(all_leads(field, other)), len(all_leads(other, field))), (many, many))
                self.assertIsNone(bars(field, other))

    def test_sizes_of_values(self):
        draw = drawer(3)
        for field, further in pairs_of_fields(MORE):
            for pair in all_leads(field, further)[:2]:
                member = drawn_member(draw, field, 5)
                value = ring.value(field, member)
                if value is None:
                    continue
                quotient = further.step_size // field.step_size
                if value * quotient < 60:
                    image = led_member(field, further, pair, member, 66)
                    self.assertEqual(ring.value(further, image), value * quotient)

    def test_wrong_inputs(self):
        for function in (lead, all_leads, does_lead, are_alike, bars):
            self.check_parameters(function, (A, B), (FIELD, FIELD))
            self.assert_raises_just(InvalidOperation, function, A, C)
        for function in (is_lead, are_all_leads, are_bars):
            self.check_parameters(function, (A, A, None), (FIELD, FIELD, None))
            self.assert_raises_just(InvalidOperation, function, A, C, None)
            self.assert_raises_just(InvalidField, function, A, None, None)
        rules = (FIELD, FIELD, (InvalidMap, WRONG_PAIRS), MEMBER, LEVEL)
        self.check_parameters(led_member, (A, A, GOOD, ONE, 66), rules)
        for args in ((A, C, GOOD, ONE, 1), (A, C, None, ONE, 1), (A, C, None, None, None), (C, A, GOOD, None, 67)):
            self.assert_raises_just(InvalidOperation, led_member, *args)
        self.assert_raises_just(InvalidMap, led_member, A, B, GOOD, None, None)


class AllLeadsTest(unittest.TestCase, ErrorCase):

    def test_other_orders_and_leads(self):
        draw = drawer(4)
        for field, further in pairs_of_fields(MORE):
            told = all_leads(field, further)
            if not told:
                continue
            others = []
            for u, w in told:
                c = three_values(field, further, (u, w))[2]
                u = ring.added(u, ring.product(further, over.letter(further, 2 * c + 1), drawn_member(draw, further, 2)))
                w = ring.added(w, ring.product(further, over.letter(further, 2 * c + 1), drawn_member(draw, further, 2)))
                others.append((u, w))
            draw.shuffle(others)
            self.assertIs(are_all_leads(field, further, tuple(others)), True)
            self.assertIs(are_all_leads(field, further, tuple(others[1:])), False)
            self.assertIs(are_all_leads(field, further, tuple(others + others[:1])), False)
            self.assertIs(are_all_leads(field, further, list(others)), False)
            if len(told) > 1:
                self.assertIs(are_all_leads(field, further, tuple(others[1:] + others[1:2])), False)
                self.assertIs(are_all_leads(field, further, tuple(others[1:]) + (told[0] + told[0],)), False)
            self.check_judge(are_all_leads, (field, further), [told[0], (told,), (1,) * len(told)])

    def test_two_leads_of_one_map(self):
        one, other = GOOD, (ZERO, ((8,), (9,)))
        self.assertTrue(is_lead(A, A, other))
        self.assertIs(are_all_leads(A, A, (one, other)), False)
        self.assertIs(are_all_leads(A, A, (other, (ZERO, ((-2,), (-1,))))), True)


class BarsTest(unittest.TestCase, ErrorCase):

    def check_bars(self, field, further, told):
        residues = []
        for u, balls in told:
            residues.append(tuple(n % further.prime for n in u[0]))
            h = top_with(field, further, u)
            height = ring.value(further, image_of_low(further, u, field.low))
            for ball, value in balls:
                self.assertTrue(at_least(height, value + 1))
                if len(ball) < 5:
                    self.assertEqual(over.closed_value(further, h, ball), value)
        self.assertEqual(residues, self.residues(field, further))

    def residues(self, field, further):
        return [digit for digit in over.all_digits(further)
                if ring.value(further, image_of_low(further, over.with_zeros(further, digit), field.low)) != 0]

    def test_bars(self):
        lots = 0
        for field, further in pairs_of_fields(MORE):
            told = bars(field, further)
            if told is not None and further.residues <= 9:
                self.check_bars(field, further, told)
                lots += 1
            if told == ():
                self.assertEqual(self.residues(field, further), [])
                self.assertIs(are_bars(field, further, ()), True)
        self.assertGreater(lots, 100)

    def test_other_bars(self):
        draw = drawer(5)
        count = 0
        for field, further in pairs_of_fields(MORE):
            told = bars(field, further)
            if not told or further.residues > 9:
                continue
            count += 1
            others = []
            for u, balls in told:
                at = draw.randrange(len(balls))
                ball, value = balls[at]
                finer = tuple((ball + (digit,), value) for digit in over.all_digits(further))
                u = ring.added(u, ring.product(further, over.letter(further, 45), drawn_member(draw, further, 5)))
                others.append((u, balls[:at] + finer + balls[at + 1:]))
            others = tuple(others)
            self.assertIs(are_bars(field, further, others), True)
            u, balls = others[-1]
            ball, value = balls[0]
            wrong = [
                others[1:], others[:-1], others + others[-1:], list(others), (told,), others[:-1] + (others[-1] + (0,),),
                others[:-1] + ([u, balls],), others[:-1] + ((u, balls[1:]),), others[:-1] + ((u, list(balls)),),
                others[:-1] + ((u, ((ball, value + 1),) + balls[1:]),), others[:-1] + ((u, balls[::-1]),),
                others[:-1] + ((u[0], balls),), others[:-1] + ((u,),), others[:-1] + (u,)]
            if len(others) > 1:
                wrong += [others[::-1], others[:-1] + others[:1]]
            for value in wrong:
                self.assertIs(are_bars(field, further, value), False, (field.top, further.top, value))
        self.assertGreater(count, 40)
        self.check_judge(are_bars, (A, B), [ZERO, (ZERO,), ((ZERO, ()),), ((ZERO, (((), 0),)),), A, (A,), ((A, A),)])

    def test_members_that_are_not_near_enough(self):
        field, further = BOTH[0], Field(2, (1, 1, 1), ((2, 0), (2, 0), (1, 0)))
        told = bars(field, further)
        self.assertTrue(told and len(told) == 2)
        found = set()
        for k in range(1, 12):
            moved = []
            for u, _ in told:
                u = ring.added(u, over.letter(further, k))
                h = top_with(field, further, u)
                moved.append((u, fence(further, h) or (((), 0),)))
            fine = all(at_least(ring.value(further, image_of_low(further, u, field.low)), value + 1)
                       and over.closed_value(further, top_with(field, further, u), ball) == value
                       for u, balls in moved for ball, value in balls)
            found.add(fine)
            self.assertIs(are_bars(field, further, tuple(moved)), fine)
        self.assertEqual(found, {True, False})

    def test_residues_without_leads(self):
        self.assertEqual(bars(D, A), ())
        self.assertEqual(bars(PLAIN[2], D), ())
        self.assertIs(are_bars(D, A, ()), True)
        self.assertIs(are_bars(A, D, ()), False)


class LedMemberTest(unittest.TestCase, ErrorCase):

    def test_sums_products_and_norms(self):
        draw = drawer(6)
        for field, further in pairs_of_fields(MORE):
            for pair in all_leads(field, further)[:3]:
                one, other = drawn_member(draw, field, 5), drawn_member(draw, field, 5)
                level = draw.choice((0, 1, 2, 7, 30, 65, 66))
                images = [led_member(field, further, pair, m, level) for m in (
                    one, other, ring.added(one, other), ring.product(field, one, other), ring.whole(field, -7))]
                a, b, total, product, number = images
                self.assertTrue(ring.near(further, ring.added(a, b), total, level))
                self.assertTrue(ring.near(further, ring.product(further, a, b), product, level))
                self.assertTrue(ring.near(further, number, ring.whole(further, -7), level))
                for image in images:
                    self.assertEqual(near_member(further, image, level), image)
                less = norm_of(field, one) ** (further.degree // field.degree) - norm_of(further, a)
                if less:
                    self.assertGreaterEqual(exponent(field.prime, less) * further.step_size, level)

    def test_letters(self):
        for field, further in pairs_of_fields(MORE):
            for pair in all_leads(field, further)[:3]:
                a, b, c = three_values(field, further, pair)
                letter = led_member(field, further, pair, low_letter(field), 66)
                step = led_member(field, further, pair, top_letter(field), 66)
                self.assertTrue(ring.near(further, image_of_low(further, letter, field.low), ring.whole(further, 0), 66))
                h = top_with(field, further, letter)
                self.assertTrue(ring.near(further, over.value_at(further, h, step), ring.whole(further, 0), 66))
                self.assertTrue(ring.near(further, letter, pair[0], 66 if a is None else min(a, 66)))
                self.assertTrue(ring.near(further, step, pair[1], c + 1))

    def test_one_map_told_by_two_leads(self):
        draw = drawer(7)
        for field in MORE:
            pair = lead(field, field)
            c = three_values(field, field, pair)[2]
            change = ring.product(field, over.letter(field, 2 * c + 1), drawn_member(draw, field, 3))
            other = tuple(ring.added(m, change) for m in pair)
            self.assertTrue(is_lead(field, field, other))
            member = drawn_member(draw, field)
            self.assertEqual(led_member(field, field, pair, member, 66), led_member(field, field, other, member, 66))

    def test_long_integers(self):
        long = ((BIG - 1,), (1 - BIG,))
        image = led_member(A, A, (ZERO, ((-2,), (-1,))), long, 66)
        # r goes to - 2 - r.
        self.assertEqual(image, ((3 * (BIG - 1) % 2 ** 33,), ((BIG - 1) % 2 ** 33,)))


class NearTopsTest(unittest.TestCase):

    def test_near_tops_make_alike_fields(self):
        draw = drawer(8)
        for field in MORE:
            e = field.step_size
            d = three_values(field, field, (low_letter(field), top_letter(field)))[2]
            for _ in range(3):
                rows = [list(row) for row in field.top]
                for j in range(e):
                    k = (2 * d + 1 - j + e - 1) // e
                    at = draw.randrange(field.plain_size)
                    rows[j][at] += field.prime ** max(k, 2) * draw.randint(-2, 2)
                other = Field(field.prime, field.low, tuple(tuple(row) for row in rows))
                self.assertTrue(are_alike(field, other))

    def test_fields_with_one_slope_that_are_not_alike(self):
        self.assertFalse(are_alike(A, B))
        self.assertFalse(are_alike(Field.of(7, (7, 0, 1)), Field.of(7, (-7, 0, 1))))


class EarlierStagesTest(unittest.TestCase):

    def test_fields_without_steps(self):
        draw = drawer(9)
        for prime, most in ((2, 6), (3, 3), (5, 2), (7, 2)):
            for size in range(1, most + 1):
                plain = Field.plain(prime, size)
                lows = [low for low in irreducible_ones(prime, size) if len(low) == size + 1]
                for low in draw.sample(lows, min(3, len(lows))):
                    low = tuple(n + prime * draw.randint(-4, 4) for n in low[:-1]) + (1,)
                    first = (prime * draw.choice((1, -1, 1 + prime)),) + (0,) * (size - 1)
                    other = Field(prime, low, (first, (1,) + (0,) * (size - 1)))
                    self.assertTrue(are_alike(plain, other))
                    self.assertEqual(len(all_leads(plain, other)), size)
                for further in FIELDS:
                    if further.prime == prime:
                        self.assertIs(does_lead(plain, further), further.plain_size % size == 0)

    def test_turns_are_self_maps(self):
        draw = drawer(10)
        for field in PLAIN:
            for times in range(field.plain_size):
                pair = (turned_letter(field, times, 20), top_letter(field))
                self.assertIs(is_lead(field, field, pair), True)
                member = drawn_member(draw, field)
                for level in (0, 5, 66):
                    turned = near_member(field, turned_member(field, member, times, level), level)
                    self.assertEqual(led_member(field, field, pair, member, level), turned)
            turns = tuple((turned_letter(field, k, 20), top_letter(field)) for k in range(field.plain_size))
            self.assertIs(are_all_leads(field, field, turns), True)

    def test_fields_by_members(self):
        draw = drawer(11)
        for field in MORE:
            member = member_of_value_one(draw, field)
            other = field_by(field, member)
            self.assertIs(is_lead(other, field, (low_letter(field), member)), True)
            self.assertTrue(are_alike(field, other))

    def test_tame_kinds(self):
        fields = {}
        for p, f, e in SIZES:
            for kind in range(min(p ** f - 1, 12)):
                fields.setdefault((p, f, e), []).append(tame_field(p, f, e, kind))
        for (p, f, e), lot in fields.items():
            chosen = [tame_field(p, f, e, kind) for kind in tame_kinds(p, f, e)]
            for one in lot[:6]:
                self.assertEqual([are_alike(one, other) for other in chosen].count(True), 1)
                for other in lot[:4]:
                    self.assertIs(are_alike(one, other), tame_kind(one) == tame_kind(other))


class TimeTest(unittest.TestCase):

    def test_times(self):
        for one, other in ((SIX, SIX), (CUBE, CUBE), (STEPS[6], STEPS[6]), (PLAIN[5], PLAIN[5])):
            start = perf_counter()
            all_leads(one, other), bars(one, other)
            self.assertLess(perf_counter() - start, 1)


if __name__ == "__main__":
    unittest.main()
