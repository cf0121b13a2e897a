"""How long norms, traces and polynomials of members take, measured by products of members."""

import unittest
from time import perf_counter

from tests import ring
from tests.samples import FIELDS, drawn_member
from tests.tools import BIG, drawer
from wildsteps.fields.fields import Field, member_product, norm_of, polynomial_of, trace_of

SIX = Field.of(3, (3, 0, 0, 0, 0, 0, 1))
MEMBER = ((1,), (2,), (3,), (4,), (5,), (6,))
OTHERS = [
    (Field(2, (1, 1, 1), ((2, 4), (2, 2), (6, 2), (1, 0))), ((1, 2), (3, 4), (5, 6))),
    (Field(2, (1, 1, 0, 1), ((2, 4, 6), (2, 2, 4), (1, 0, 0))), ((1, 2, 3), (4, 5, 6))),
    (Field.plain(2, 6), ((1, 2, 3, 4, 5, 6),)),
]


def seconds(function, *args):
    start = perf_counter()
    for _ in range(1000):
        function(*args)
    return perf_counter() - start


class TimesTest(unittest.TestCase):

    def check_time(self, function, field, member, most):
        # A busy machine can slow down either side, so one good round of several is enough.
        for _ in range(5):
            product = seconds(member_product, field, member, member)
            if seconds(function, field, member) <= most * product:
                return
        self.fail(f"{function.__name__} takes more than {most} times as long as member_product")

    def test_times_of_the_field_with_six_steps(self):
        self.check_time(polynomial_of, SIX, MEMBER, 20)
        self.check_time(norm_of, SIX, MEMBER, 12)
        self.check_time(trace_of, SIX, MEMBER, 12)

    def test_times_of_other_sizes(self):
        for field, member in OTHERS:
            self.check_time(polynomial_of, field, member, 20)
            self.check_time(norm_of, field, member, 12)
            self.check_time(trace_of, field, member, 12)


class AnswersTest(unittest.TestCase):

    def check_answers(self, field, member):
        rows = ring.table(field, member)
        self.assertEqual(norm_of(field, member), ring.fast_determinant(rows))
        self.assertEqual(trace_of(field, member), sum(rows[k][k] for k in range(len(rows))))
        told = polynomial_of(field, member)
        self.assertEqual(len(told), field.degree + 1)
        for x in range(field.degree + 1):
            moved = [[(x if i == j else 0) - rows[i][j] for j in range(len(rows))] for i in range(len(rows))]
            self.assertEqual(sum(number * x ** k for k, number in enumerate(told)), ring.fast_determinant(moved))

    def test_answers(self):
        draw = drawer(61)
        for field in FIELDS + [SIX] + [field for field, _ in OTHERS]:
            for size in (1, 10, 10 ** 8):
                self.check_answers(field, drawn_member(draw, field, size))
            self.check_answers(field, ring.whole(field, 0))
            self.check_answers(field, ring.whole(field, -3))

    def test_long_integers(self):
        member = tuple((BIG - k,) for k in range(1, 7))
        self.check_answers(SIX, member)
        self.assertGreater(abs(norm_of(SIX, member)), BIG ** 5)
        for field, _ in OTHERS:
            self.check_answers(field, tuple((1 - BIG,) * field.plain_size for _ in range(field.step_size)))


if __name__ == "__main__":
    unittest.main()
