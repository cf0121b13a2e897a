"""Stage 7: near roots or fences."""

import unittest
from time import perf_counter

from tests import over, ring
from tests.samples import BOTH, FIELDS, PLAIN, STEPS, A, B, C, D, drawn_digit, drawn_member
from tests.test_fields import WRONG_FIELDS, WRONG_MEMBERS
from tests.tools import BIG, NOTHING_LIKE_IT, WRONG_LEVELS, ErrorCase, at_least, deep, drawer
from wildsteps.errors import InvalidField, InvalidMember, InvalidNumber, InvalidOperation, InvalidPolynomial, Refused
from wildsteps.errors import TooMany
from wildsteps.fields.fields import Field
from wildsteps.roots import roots
from wildsteps.roots.roots import are_one_root, depth_of, fence, is_fence, is_near_root, is_polynomial_over, near_root
from wildsteps.roots.roots import near_roots, nearer_root, roots_number, slope_at, value_at

Q2, Q3, Q5 = Field.plain(2, 1), Field.plain(3, 1), Field.plain(5, 1)
SEVEN, THREE = (((-7,),), ((0,),), ((1,),)), (((-3,),), ((0,),), ((1,),))
SMALL = [field for field in FIELDS if field.residues <= 9 and field.degree <= 4]
FIELD, MEMBER, LEVEL = (InvalidField, WRONG_FIELDS), (InvalidMember, WRONG_MEMBERS), (InvalidNumber, WRONG_LEVELS)
ONE, ZERO, TWO = ((1,), (0,)), ((0,), (0,)), ((2,), (0,))
LINEAR = (ONE, ONE)
WRONG_OVERS = NOTHING_LIKE_IT + (
    0, (), (ONE,), (ZERO,), ONE, (ZERO, ZERO), (ONE, ZERO), (ONE,) * 8, [ONE, ONE], (ONE, [(1,), (0,)]), ((1,), (1,)),
    (ONE, ((1,),)), (ONE, ((1, 0), (0, 0))), (((1,),), ((1,),)), (ONE, ((True,), (0,))), (((BIG,), (0,)), ONE),
    (ONE, ((1,), (-BIG,))), (ONE, None), (1, 2), (ONE, 1), (A, A), (ONE, ((1,), (None,))), {0: ONE, 1: ONE}, deep(1, 5),
    (((10 ** 219,), (0,)), ONE))
OVER = (InvalidPolynomial, WRONG_OVERS)


def drawn_over(draw, field, degree, size=3):
    while True:
        g = tuple(drawn_member(draw, field, size) for _ in range(degree + 1))
        if any(n for row in g[-1] for n in row):
            return g


def drawn_split(draw, field, degree):
    """A product of linear polynomials with unlike roots in the field, and the roots."""
    while True:
        rows = {tuple(drawn_digit(draw, field) for _ in range(3)) for _ in range(degree)}
        if len(rows) == degree:
            rows = sorted(rows)
            return over.from_roots(field, [over.member_in(field, row) for row in rows]), rows


class FormTest(unittest.TestCase, ErrorCase):

    def test_constants(self):
        self.assertEqual((roots.MAX_OVER_DEGREE, roots.MAX_DEPTH, roots.MAX_BALLS), (6, 66, 5000))

    def test_examples(self):
        self.assertEqual(
            [is_near_root(Q3, SEVEN, ((1,),)), value_at(Q3, SEVEN, ((13,),)), slope_at(Q3, SEVEN, ((13,),)),
             depth_of(Q3, SEVEN), roots_number(Q3, SEVEN)], [True, ((162,),), ((26,),), 0, 2])

    def test_polynomials_over(self):
        draw = drawer(1)
        for field in FIELDS:
            for degree in range(1, 7):
                g = drawn_over(draw, field, degree)
                self.assertIs(is_polynomial_over(field, g), True)
                self.assertIs(is_polynomial_over(field, g + (ring.whole(field, 0),)), False)
                self.assertIs(is_polynomial_over(field, list(g)), False)
                self.assertIs(is_polynomial_over(field, g[:1]), False)
            self.assertIs(is_polynomial_over(field, (ring.whole(field, 1),) * 7), True)
            self.assertIs(is_polynomial_over(field, (ring.whole(field, 1),) * 8), False)
            self.assertIs(is_polynomial_over(field, (ring.whole(field, 10 ** 219), ring.whole(field, -BIG))), True)
        self.check_judge(is_polynomial_over, (A,), [wrong for wrong in WRONG_OVERS if str(BIG) not in str(wrong)
                                                    and str(10 ** 219) not in str(wrong)])
        self.assertIs(is_polynomial_over(A, (((True,), (0,)), ONE)), False)
        self.check_parameters(is_polynomial_over, (A, None), (FIELD, None))

    def test_values_and_slopes(self):
        draw = drawer(2)
        for field in FIELDS:
            for degree in (1, 2, 3, 6):
                g, m = drawn_over(draw, field, degree), drawn_member(draw, field)
                self.assertEqual(value_at(field, g, m), over.value_at(field, g, m))
                self.assertEqual(slope_at(field, g, m), over.value_at(field, over.derivative(g), m))
        long = ((BIG - 1,), (1 - BIG,))
        self.assertEqual(value_at(A, (long,) * 7, long), over.value_at(A, (long,) * 7, long))
        self.assertEqual(slope_at(A, (long,) * 7, long), over.value_at(A, over.derivative((long,) * 7), long))

    def test_wrong_inputs(self):
        self.check_parameters(value_at, (A, LINEAR, ONE), (FIELD, OVER, MEMBER))
        self.check_parameters(slope_at, (A, LINEAR, ONE), (FIELD, OVER, MEMBER))
        self.check_parameters(is_near_root, (A, LINEAR, ONE), (FIELD, OVER, None))
        self.check_parameters(are_one_root, (A, LINEAR, ((-1,), (0,)), ((1,), (0,))), (FIELD, OVER, MEMBER, MEMBER))
        self.check_parameters(nearer_root, (A, LINEAR, ONE, 66), (FIELD, OVER, MEMBER, LEVEL))
        self.check_parameters(is_fence, (A, LINEAR, None), (FIELD, OVER, None))
        for function in (depth_of, near_root, fence, roots_number, near_roots):
            self.check_parameters(function, (A, LINEAR), (FIELD, OVER))


class NearRootTest(unittest.TestCase, ErrorCase):

    def test_judge_by_values(self):
        draw = drawer(3)
        for field in FIELDS:
            for _ in range(6):
                roots_of = [drawn_member(draw, field, 3) for _ in range(draw.randint(1, 4))]
                g = over.from_roots(field, roots_of, drawn_member(draw, field, 2))
                if not is_polynomial_over(field, g):
                    continue
                for k in range(6):
                    m = ring.added(roots_of[0], ring.product(field, over.letter(field, k), drawn_member(draw, field)))
                    self.assertIs(is_near_root(field, g, m), over.is_near_root(field, g, m))

    def test_double_roots_and_long_members(self):
        one = ring.whole(A, 1)
        self.assertIs(is_near_root(A, over.from_roots(A, [one, one]), one), False)
        self.assertIs(is_near_root(A, over.from_roots(A, [one, one]), ring.whole(A, 5)), False)
        self.assertIs(is_near_root(A, over.from_roots(A, [one, ZERO]), ring.whole(A, 1 + 2 ** 700)), True)
        self.assertIs(is_near_root(A, over.from_roots(A, [one, ZERO]), ring.whole(A, 3 ** 400)), True)
        self.check_judge(is_near_root, (A, over.from_roots(A, [one, ZERO])), [
            0, (1,), ((0,),), [(0,), (0,)], ((True,), (0,)), ((1,), False), ((0, 0), (0, 0)), A])

    def test_slopes_other_than_0_are_not_enough(self):
        # 3 is a root modulo r of x x + 3 x with the slope 9, and -3 one of x x - 9 for the prime 2.
        self.assertIs(is_near_root(Q2, (((2,),), ((2,),), ((1,),)), ((0,),)), False)
        self.assertIs(is_near_root(Q3, THREE, ((0,),)), False)
        self.assertIsNone(near_root(Q3, THREE))
        near = (((2 ** 8 * 3,),), ((0,),), ((1,),))
        self.assertTrue(at_least(ring.value(Q2, value_at(Q2, near, ((0,),))), 8))
        self.assertIsNone(near_root(Q2, near))

    def test_one_root(self):
        draw = drawer(4)
        for field in FIELDS:
            g, rows = drawn_split(draw, field, 2)
            members = [over.member_in(field, row) for row in rows]
            nears = []
            for m in members:
                k = ring.value(field, over.value_at(field, over.derivative(g), m)) + 1
                nears.append((m, ring.added(m, over.letter(field, k)), ring.added(m, over.letter(field, k + 4))))
            for i, some in enumerate(nears):
                for k, others in enumerate(nears):
                    for one in some:
                        for other in others:
                            self.assertIs(are_one_root(field, g, one, other), i == k)
            wrong = ring.added(members[0], over.letter(field, 0))
            if not over.is_near_root(field, g, wrong):
                self.assert_raises_just(InvalidOperation, are_one_root, field, g, wrong, members[0])
                self.assert_raises_just(InvalidOperation, are_one_root, field, g, members[0], wrong)

    def test_errors_of_one_root(self):
        bad = over.from_roots(A, [ONE, ONE])
        self.assert_raises_just(InvalidMember, are_one_root, A, bad, ONE, (1,))
        self.assert_raises_just(InvalidMember, are_one_root, A, bad, [ONE], ONE)
        self.assert_raises_just(InvalidOperation, are_one_root, A, bad, ONE, ONE)

    def check_nearer(self, field, g, m, level):
        x = nearer_root(field, g, m, level)
        self.assertTrue(all(abs(n) < BIG for row in x for n in row))
        slope = ring.value(field, over.value_at(field, over.derivative(g), m))
        self.assertTrue(over.is_near_root(field, g, x))
        self.assertTrue(at_least(ring.value(field, ring.added(x, m, -1)), slope + 1))
        self.assertTrue(at_least(ring.value(field, over.value_at(field, g, x)), level + slope))

    def test_nearer_roots(self):
        draw, count = drawer(5), 0
        for field in FIELDS:
            for degree in (1, 2, 3, 4, 6):
                g = drawn_over(draw, field, degree, 4)
                if depth_of(field, g) is None or depth_of(field, g) > 66:
                    continue
                for m in near_roots(field, g):
                    count += 1
                    for level in (0, 1, 2, 3, 4, 5, 6, 8, 10, 13, 40, 65, 66):
                        self.check_nearer(field, g, m, level)
        self.assertGreater(count, 100)

    def test_nearer_roots_with_deep_slopes(self):
        # The slope at 0 has the value 150, so 0 itself is told for each level.
        g = over.from_roots(Q2, [((0,),), ((2 ** 150,),)])
        for level in (0, 1, 66):
            self.check_nearer(Q2, g, ((0,),), level)
            self.check_nearer(Q2, g, ((2 ** 190,),), level)
        longest = ((10 ** 60 - 1,),)
        for level in (0, 66):
            self.check_nearer(Q5, (((-1,),), ((0,),), ((1,),)), longest, level)
            self.check_nearer(Q5, over.from_roots(Q5, [longest, ((0,),)]), ((5 ** 60 - 1,),), level)

    def test_nearer_roots_of_what_is_none(self):
        self.assert_raises_just(InvalidOperation, nearer_root, Q3, THREE, ((0,),), 5)
        self.assert_raises_just(InvalidOperation, nearer_root, A, over.from_roots(A, [ONE, ONE]), ONE, 66)
        self.assert_refused(InvalidNumber, 67, nearer_root, (Q3, THREE, ((0,),), 67))


class DepthTest(unittest.TestCase, ErrorCase):

    def test_depths_by_blocks(self):
        draw = drawer(6)
        for field in FIELDS:
            for degree in (1, 2, 3) + ((4, 5, 6) if field.degree < 4 else ()):
                g = drawn_over(draw, field, degree, 3)
                self.assertEqual(depth_of(field, g), over.depth(field, g))
        for field in (STEPS[6], BOTH[2], PLAIN[5]):
            g = drawn_over(draw, field, 6, 2)
            self.assertEqual(depth_of(field, g), over.depth(field, g))

    def test_great_depths_and_double_roots(self):
        draw = drawer(7)
        for field in FIELDS:
            root, other = drawn_member(draw, field, 2), drawn_member(draw, field, 2)
            for often in (2, 3):
                self.assertIsNone(depth_of(field, over.from_roots(field, [root] * often + [other])))
            square = over.over_product(field, *[(ring.whole(field, 3), other, ring.whole(field, 1))] * 2)
            self.assertIsNone(depth_of(field, square))
        for k in (0, 1, 32, 33, 34, 80, 150):
            g = over.from_roots(Q2, [((0,),), ((2 ** k,),)])
            self.assertEqual(depth_of(Q2, g), 2 * k)
            self.assertEqual(depth_of(A, over.from_roots(A, [ZERO, ring.whole(A, 2 ** k)])), 4 * k)
        self.assertEqual(depth_of(A, (((8,), (0,)), ((0,), (4,)))), 5)
        long = (((BIG - 1,), (BIG - 2,)), ((BIG - 3,), (3 - BIG,)), ((BIG - 7,), (1 - BIG,)))
        self.assertEqual(depth_of(A, long), over.depth(A, long))

    def test_values_are_within_the_depth(self):
        draw = drawer(8)
        for field in SMALL:
            g = drawn_over(draw, field, 3)
            deep_value = depth_of(field, g)
            for _ in range(10):
                m = drawn_member(draw, field)
                values = [ring.value(field, over.value_at(field, h, m)) for h in (g, over.derivative(g))]
                self.assertTrue(any(v is not None and v <= deep_value for v in values))

    def test_edges(self):
        for depth in (64, 65, 66, 67, 68):
            g = (ring.whole(Q3, 3 ** depth), ring.whole(Q3, 0), ring.whole(Q3, 1))
            self.assertEqual(depth_of(Q3, g), depth)
            if depth > 66:
                for function in (near_root, fence, roots_number, near_roots):
                    self.assert_too_many(66, function, Q3, g)
            else:
                self.assertEqual((near_root(Q3, g) is None), (fence(Q3, g) is not None))
                self.assertTrue(is_fence(Q3, g, fence(Q3, g)) if roots_number(Q3, g) == 0 else True)

    def test_refused(self):
        square = (ring.whole(Q3, 1), ring.whole(Q3, 0), ring.whole(Q3, 2), ring.whole(Q3, 0), ring.whole(Q3, 1))
        for g in (over.from_roots(Q3, [((1,),), ((1,),)]), square):
            self.assertIsNone(depth_of(Q3, g))
            for function in (near_root, fence, roots_number, near_roots):
                self.assertEqual(self.assert_raises_just(Refused, function, Q3, g).reason, ("double",))
        # A fence of such a polynomial is one all the same.
        self.assertIs(is_fence(Q3, square, (((), 0),)), True)


class FenceTest(unittest.TestCase, ErrorCase):

    def test_just_one_of_both(self):
        draw = drawer(9)
        found = {True: 0, False: 0}
        for field in FIELDS:
            for degree in (1, 2, 2, 3, 4, 5, 6):
                g = drawn_over(draw, field, degree, 3)
                if depth_of(field, g) is None or depth_of(field, g) > 66:
                    continue
                m, told = near_root(field, g), fence(field, g)
                self.assertNotEqual(m is None, told is None)
                found[m is None] += 1
                if m is None:
                    self.assertIs(is_fence(field, g, told), True)
                    self.assertEqual((roots_number(field, g), near_roots(field, g)), (0, ()))
                    self.check_cover(field, told)
                else:
                    self.assertTrue(over.is_near_root(field, g, m))
        self.assertTrue(min(found.values()) > 50, found)

    def check_cover(self, field, told):
        balls = [ball for ball, _ in told]
        self.assertEqual(balls, sorted(balls))
        self.assertTrue(all(one[:len(other)] != other for one in balls for other in balls if one is not other))
        deepest = max(map(len, balls))
        self.assertEqual(sum(field.residues ** (deepest - len(ball)) for ball in balls), field.residues ** deepest)

    def test_coarsest_fences_by_trying(self):
        draw = drawer(10)
        count = 0
        for field in SMALL:
            for degree in (2, 3, 4):
                for _ in range(3):
                    g = drawn_over(draw, field, degree, 2)
                    if depth_of(field, g) is None or depth_of(field, g) > 12:
                        continue
                    told = fence(field, g)
                    if told is not None and max(len(ball) for ball, _ in told) <= 4:
                        self.assertEqual(told, over.coarsest(field, g))
                        count += len(told) > 1
        self.assertGreater(count, 30)

    def test_roots_by_trying(self):
        draw = drawer(11)
        for field in SMALL:
            level = 4 if field.residues < 4 else 2
            members = over.members_to(field, level)
            for degree in (1, 2, 3):
                g = drawn_over(draw, field, degree, 2)
                if depth_of(field, g) is None or depth_of(field, g) > 66:
                    continue
                # Each near root among the members is of a told root, and of just one.
                told = near_roots(field, g)
                for m in members:
                    if over.is_near_root(field, g, m):
                        self.assertEqual([are_one_root(field, g, m, root) for root in told].count(True), 1)

    def test_fences_and_finer_ones(self):
        draw = drawer(12)
        for field in SMALL:
            for degree in (2, 3):
                g = drawn_over(draw, field, degree, 2)
                if depth_of(field, g) is None or depth_of(field, g) > 30 or fence(field, g) is None:
                    continue
                told = fence(field, g)
                finer = told
                for _ in range(2):
                    at = draw.randrange(len(finer))
                    ball, value = finer[at]
                    inner = tuple((ball + (digit,), value) for digit in over.all_digits(field))
                    finer = finer[:at] + inner + finer[at + 1:]
                    self.assertIs(is_fence(field, g, finer), True)
                self.check_wrong_fences(field, g, finer)
                self.check_wrong_fences(field, g, told)

    def check_wrong_fences(self, field, g, told):
        ball, value = told[-1]
        zero = (0,) * field.plain_size
        wrong = [
            told[1:], told[:-1], told + told[-1:], told[:1] + told, told + ((ball + (zero,), value),),
            told[:-1] + ((ball, value + 1),), told[:-1] + ((ball, value - 1),), list(told), told[:-1] + ([ball, value],),
            told[:-1] + ((ball, value, 0),), told[:-1] + ((list(ball), value),), told[:-1] + ((ball,),),
            told[:-1] + ((ball, str(value)),), told[:-1] + ((ball, None),), (told,), told[:-1] + (ball,), dict(told)]
        if len(told) > 1:
            wrong += [told[::-1], told[1:2] + told[:1] + told[2:]]
        if value in (0, 1):
            wrong.append(told[:-1] + ((ball, bool(value)),))
        for value in wrong:
            self.assertIs(is_fence(field, g, value), False)

    def test_wrong_fences(self):
        told = fence(Q3, THREE)
        self.assertEqual(told, ((((0,),), 1), (((1,),), 0), (((2,),), 0)))
        self.check_judge(is_fence, (Q3, THREE), [
            ((((False,),), 1), (((True,),), 0), (((2,),), 0)), ((((0,),), True), (((1,),), 0), (((2,),), 0)),
            ((((0,),), 1), (((1,),), False), (((2,),), 0)), ((((0,),), 1), (((1,),), 0), (((3,),), 0)),
            ((((0,),), 1), (((1,),), 0), (((-1,),), 0)), (((), 0),), (((), 1),), ((((0, 0),), 1),), A, (A,), ((A, A),),
            ((((0,),), 1), ((1,), 0), (((2,),), 0)), ((((0,),), 10 ** 219), (((1,),), 0), (((2,),), 0))])
        # A ball of the level 1 that is closed, put together with its neighbours, is not.
        self.assertIs(is_fence(Q3, (((-7,),), ((0,),), ((1,),)), ((((0,),), 0), (((1,),), 1), (((2,),), 1))), False)
        # Values that are equal all over a ball do not close it.
        g = (((2,),), ((0,),), ((1,),), ((-2,),), ((1,),))
        self.assertEqual({ring.value(Q2, over.value_at(Q2, g, ((k,),))) for k in range(32)}, {1})
        self.assertIs(is_fence(Q2, g, (((), 1),)), False)
        told = fence(Q2, g)
        self.assertTrue(len(told) > 1 and {value for _, value in told} == {1})
        self.assertIs(is_fence(Q2, g, told), True)

    def test_polynomials_with_roots_have_no_fences(self):
        draw = drawer(13)
        for field in SMALL:
            g, rows = drawn_split(draw, field, 2)
            self.assertIsNone(fence(field, g))
            balls = tuple(((digit,), 0) for digit in over.all_digits(field))
            self.assertIs(is_fence(field, g, balls), False)
            self.assertIs(is_fence(field, g, (((), 0),)), False)

    def deepest(self, field, depth):
        """All members, in balls along the row of 0 to a level."""
        zero, one = [(k,) for k in range(2)]
        return [((zero,) * k + (one,), k) for k in range(depth)] + [((zero,) * depth, depth)]

    def test_deep_and_many_balls(self):
        # x x + x r ** k .. closed on each ball along the row of 0, by its level.
        for k in (3, 33, 65, 66, 67, 68):
            g = (((2 ** (2 * k),),), ((2 ** k,),), ((1,),))
            balls = tuple(sorted((ball, 2 * level) for ball, level in self.deepest(Q2, k)))
            self.assertIs(is_fence(Q2, g, balls), k <= 67)
            if k <= 33:
                self.assertEqual(fence(Q2, g), balls)
        g = (((1,),), ((1,),), ((1,),))
        rows = [tuple((k >> i & 1,) for i in range(11, -1, -1)) for k in range(4096)]
        balls = sorted((row, 0) for row in rows)
        self.assertIs(is_fence(Q2, g, tuple(balls)), True)
        for many in (5000, 5001):
            split, rest = balls[:many - 4096], balls[many - 4096:]
            finer = sorted([(ball + ((k,),), 0) for ball, _ in split for k in range(2)] + rest)
            self.assertEqual(len(finer), many)
            self.assertIs(is_fence(Q2, g, tuple(finer)), many == 5000)

    def test_long_integers_in_what_is_passed(self):
        g = (ring.whole(A, 2 ** 190), ring.whole(A, 2 ** 190), ring.whole(A, 2 ** 190))
        self.assertIs(is_fence(A, g, (((), 380),)), True)
        self.assertIs(is_fence(A, g, (((), 379),)), False)
        g = (ring.whole(Q2, 3), ring.whole(Q2, 2 ** 199))
        self.assertIs(is_fence(Q2, g, (((), 0),)), True)

    def test_many_balls_are_told(self):
        field = Field.plain(2, 6)
        g = (ring.whole(field, 2 ** 63), ring.whole(field, 0), ring.whole(field, 1))
        self.assertEqual(depth_of(field, g), 65)
        start = perf_counter()
        told = fence(field, g)
        self.assertEqual(len(told), 33 * 63 + 1 - 63)
        self.assertIs(is_fence(field, g, told), True)
        self.assertLess(perf_counter() - start, 5)


class RootsTest(unittest.TestCase, ErrorCase):

    def check_roots(self, field, g, rows):
        told = near_roots(field, g)
        self.assertEqual((len(told), roots_number(field, g)), (len(rows), len(rows)))
        for m, row in zip(told, rows):
            root = over.member_in(field, row)
            self.assertTrue(over.is_near_root(field, g, m))
            self.assertTrue(all(abs(n) < BIG for line in m for n in line))
            slope = ring.value(field, over.value_at(field, over.derivative(g), root))
            self.assertTrue(at_least(ring.value(field, ring.added(m, root, -1)), slope + 1))
        self.assertIs(is_near_root(field, g, near_root(field, g)), True)

    def test_products_of_linear_ones(self):
        draw = drawer(14)
        for field in FIELDS:
            for degree in (1, 2, 3):
                g, rows = drawn_split(draw, field, degree)
                if depth_of(field, g) <= 66:
                    self.check_roots(field, g, rows)
        for field in (Q5, D, C, PLAIN[5], BOTH[0]):
            g, rows = drawn_split(draw, field, 6)
            if depth_of(field, g) <= 66:
                self.check_roots(field, g, rows)

    def test_roots_at_zero_and_below(self):
        draw = drawer(15)
        for field in FIELDS:
            zero, r = ring.whole(field, 0), ring.letters(field)[1]
            g = (zero, ring.whole(field, 1), r)
            # 0 is a root; -1 / r is none whose value is at least 0.
            self.check_roots(field, g, [()])
            self.check_roots(field, over.from_roots(field, [zero]), [()])
            h = over.over_product(field, (drawn_member(draw, field, 1), ring.whole(field, 1)), (ring.whole(field, 1), r))
            self.assertEqual(roots_number(field, h), 1)
            self.assertEqual(roots_number(field, (ring.whole(field, 1), r)), 0)
            self.assertEqual(fence(field, (ring.whole(field, 1), r)), (((), 0),))
            self.assertIsNone(near_root(field, (ring.whole(field, 1), r)))

    def test_roots_of_integers(self):
        self.assertEqual(roots_number(A, over.whole_over(A, (1, 0, 1))), 2)
        self.assertEqual(roots_number(B, over.whole_over(B, (1, 0, 1))), 0)
        self.assertEqual(roots_number(B, over.whole_over(B, (-3, 0, 1))), 2)
        self.assertEqual(roots_number(C, over.whole_over(C, (-3, 0, 0, 1))), 1)
        self.assertEqual(roots_number(D, over.whole_over(D, (1, 1, 1))), 2)
        self.assertEqual(roots_number(PLAIN[5], over.whole_over(PLAIN[5], (1, 1, 0, 0, 0, 0, 1))), 6)
        self.assertEqual(roots_number(Q5, over.whole_over(Q5, (-1, 0, 0, 0, 1))), 4)

    def test_times(self):
        draw = drawer(16)
        start, count = perf_counter(), 0
        for field in FIELDS:
            for degree in (3, 6):
                g = drawn_over(draw, field, degree, 9)
                if depth_of(field, g) is not None and depth_of(field, g) <= 66:
                    near_roots(field, g), fence(field, g)
                    count += 1
        self.assertLess((perf_counter() - start) / count, 0.5)

    def test_limits_of_fences(self):
        self.assert_raises_just(TooMany, fence, Q2, over.from_roots(Q2, [((0,),), ((2 ** 34,),)]))


if __name__ == "__main__":
    unittest.main()
