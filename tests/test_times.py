"""How long calls that are made often take, measured by products of members, and by depths of polynomials."""

import unittest
from time import perf_counter

from tests import ring
from tests.samples import FIELDS, drawn_member
from tests.tools import BIG, drawer
from wildsteps.fields.fields import Field, member_product, norm_of, polynomial_of, trace_of
from wildsteps.roots.roots import depth_of, fence, is_near_root, near_root, near_roots, roots_number
from wildsteps.selfs.selfs import fixed_size, is_part_polynomial, part_polynomial, self_number, self_parts, self_table
from wildsteps.steps.lots import map_depth, steps_at_part

SIX = Field.of(3, (3, 0, 0, 0, 0, 0, 1))
MEMBER = ((1,), (2,), (3,), (4,), (5,), (6,))
OTHERS = [
    (Field(2, (1, 1, 1), ((2, 4), (2, 2), (6, 2), (1, 0))), ((1, 2), (3, 4), (5, 6))),
    (Field(2, (1, 1, 0, 1), ((2, 4, 6), (2, 2, 4), (1, 0, 0))), ((1, 2, 3), (4, 5, 6))),
    (Field.plain(2, 6), ((1, 2, 3, 4, 5, 6),)),
]


THREE = Field.plain(3, 1)
EVEN = (((-3 ** 66,),), ((0,),), ((1,),))
DEEP = (((-3 ** 34,),), ((0,),), ((1,),))
SEVEN = (((-7,),), ((0,),), ((1,),))
BOTH = Field(2, (1, 1, 1), ((2, 0), (2, 0), (1, 0)))


def seconds(calls, function, *args):
    start = perf_counter()
    for _ in range(calls):
        function(*args)
    return perf_counter() - start


class RatioCase:

    def check_ratio(self, most, calls, told, measure):
        """So many calls of a function take at most so many times as long as those of another one."""
        # A busy machine can slow down either side, so one good round of several is enough.
        for _ in range(6):
            wanted = seconds(calls, *measure)
            if seconds(calls, *told) <= most * wanted:
                return
        self.fail(f"{told[0].__name__} takes more than {most} times as long as {measure[0].__name__}")


class TimesTest(unittest.TestCase, RatioCase):

    def check_time(self, function, field, member, most):
        self.check_ratio(most, 1000, (function, field, member), (member_product, field, member, member))

    def test_times_of_the_field_with_six_steps(self):
        self.check_time(polynomial_of, SIX, MEMBER, 20)
        self.check_time(norm_of, SIX, MEMBER, 12)
        self.check_time(trace_of, SIX, MEMBER, 12)

    def test_times_of_other_sizes(self):
        for field, member in OTHERS:
            self.check_time(polynomial_of, field, member, 20)
            self.check_time(norm_of, field, member, 12)
            self.check_time(trace_of, field, member, 12)


class RootTimesTest(unittest.TestCase, RatioCase):

    def test_times(self):
        for function in (near_root, fence, roots_number, near_roots):
            self.check_ratio(10, 1000, (function, THREE, EVEN), (depth_of, THREE, SEVEN))
            self.check_ratio(6, 1000, (function, THREE, DEEP), (depth_of, THREE, SEVEN))

    def test_answers(self):
        for polynomial, root in ((EVEN, 3 ** 33), (DEEP, 3 ** 17)):
            self.assertEqual(depth_of(THREE, polynomial), 66 if polynomial == EVEN else 34)
            self.assertIsNone(fence(THREE, polynomial))
            self.assertEqual(roots_number(THREE, polynomial), 2)
            told = near_roots(THREE, polynomial)
            self.assertEqual([member[0][0] % (3 * root) for member in told], [root, 2 * root])
            for member in told + (near_root(THREE, polynomial),):
                self.assertIs(is_near_root(THREE, polynomial, member), True)
        # Without a root the fence is told as deep.
        odd = (((-2 * 3 ** 64,),), ((0,),), ((1,),))
        wall = fence(THREE, odd)
        self.assertEqual((len(wall), max(len(ball) for ball, _ in wall), roots_number(THREE, odd)), (65, 32, 0))
        self.assertEqual(wall[-1], (((2,),), 0))
        self.assertIn((((0,),) * 5 + ((1,),), 10), wall)


class SelfTimesTest(unittest.TestCase, RatioCase):

    def test_times(self):
        for most, told in ((45, (map_depth, BOTH, 1)), (80, (self_table, BOTH)), (80, (self_parts, BOTH)), (45, (self_number, BOTH)),
                           (80, (fixed_size, BOTH, (0, 1))), (90, (steps_at_part, BOTH, (0, 1))),
                           (220, (part_polynomial, BOTH, (0, 1)))):
            self.check_ratio(most, 200, told, (member_product, SIX, MEMBER, MEMBER))

    def test_answers(self):
        self.assertEqual(self_number(BOTH), 4)
        self.assertEqual([map_depth(BOTH, k) for k in range(4)].count(None), 1)
        self.assertEqual(self_table(BOTH), ((0, 1, 2, 3), (1, 0, 3, 2), (2, 3, 0, 1), (3, 2, 1, 0)))
        self.assertEqual(self_parts(BOTH), ((0,), (0, 1), (0, 2), (0, 3), (0, 1, 2, 3)))
        self.assertEqual((fixed_size(BOTH, (0, 1)), steps_at_part(BOTH, (0, 1))), (2, ((1, 2),)))
        for part in self_parts(BOTH):
            self.assertIs(is_part_polynomial(BOTH, part, part_polynomial(BOTH, part)), True)


class AnswersTest(unittest.TestCase):

    def check_answers(self, field, member):
        rows = ring.table(field, member)
        self.assertEqual(norm_of(field, member), ring.fast_determinant(rows))
        self.assertEqual(trace_of(field, member), sum(rows[k][k] for k in range(len(rows))))
        told = polynomial_of(field, member)
        self.assertEqual(len(told), field.degree + 1)
        for x in range(field.degree + 1):
            moved = [[(x if i == j else 0) - rows[i][j] for j in range(len(rows))] for i in range(len(rows))]
            self.assertEqual(sum(number * x ** k for k, number in enumerate(told)), ring.fast_determinant(moved))

    def test_answers(self):
        draw = drawer(61)
        for field in FIELDS + [SIX] + [field for field, _ in OTHERS]:
            for size in (1, 10, 10 ** 8):
                self.check_answers(field, drawn_member(draw, field, size))
            self.check_answers(field, ring.whole(field, 0))
            self.check_answers(field, ring.whole(field, -3))

    def test_long_integers(self):
        member = tuple((BIG - k,) for k in range(1, 7))
        self.check_answers(SIX, member)
        self.assertGreater(abs(norm_of(SIX, member)), BIG ** 5)
        for field, _ in OTHERS:
            self.check_answers(field, tuple((1 - BIG,) * field.plain_size for _ in range(field.step_size)))


if __name__ == "__main__":
    unittest.main()
