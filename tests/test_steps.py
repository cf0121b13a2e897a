"""Stage 13: step lines and towers."""

import unittest
from fractions import Fraction
from math import comb
from time import perf_counter

from tests import over, ring
from tests.samples import FIELDS, A, B, C, D, drawn_member
from tests.test_fields import WRONG_FIELDS
from tests.test_maps import MORE, SIX, alike_ones
from tests.test_roots import WRONG_OVERS
from tests.tools import BIG, NOTHING_LIKE_IT, ErrorCase, drawer, exponent, fraction_of, ratio_of
from wildsteps.errors import InvalidField, InvalidNumber, InvalidPolynomial
from wildsteps.fields.fields import Field, low_letter, top_letter
from wildsteps.roots.maps import are_alike, does_lead, is_lead
from wildsteps.roots.roots import is_near_root
from wildsteps.steps import lines
from wildsteps.steps.exponents import step_number
from wildsteps.steps.lines import joined_phi, phi_at, psi_at, step_line, tower_field, tower_line, upper_steps

FIELD = (InvalidField, WRONG_FIELDS)
BELOW = NOTHING_LIKE_IT + (
    -1, (-1, 2), (-1, 10 ** 50), BIG, -BIG, (BIG, 1), (1, BIG), (2, 4), (0, 2), (1, 0), (1, -1), (1,), (1, 2, 3), [1, 2],
    (True, 2), (1, True), (), ((1, 2), 3), 10 ** 219, (10 ** 219, 3))
NUMBER = (InvalidNumber, BELOW)
TOWER = (((0,), (-1,)), ((0,), (0,)), ((1,), (0,)))
ONE, ZERO = ((1,), (0,)), ((0,), (0,))
WRONG_TOWERS = WRONG_OVERS + (
    (ONE, ONE), (((2,), (0,)), ONE), (ZERO, ZERO, ONE), (((0,), (1,)), ONE, ONE), (((0,), (1,)), ((2,), (0,))),
    (((0,), (1,)), ZERO, ((-1,), (0,))), (((0,), (1,)), ZERO), (((1,), (1,)), ZERO, ONE), (((0,), (1,)), ((1,), (2,)), ONE),
    (((0,), (1,)), ZERO, ((1,), (2,))), (((2,), (2,)), ZERO, ONE), (((4,), (2,)), ONE))
STEPS_OF_ALL = MORE + [Field.of(2, (2, 0, 0, 0, 1)), Field.of(2, (2, 0, 2, 0, 1)), Field.of(3, (3, 3, 0, 1)),
                       Field.of(3, (6, 0, 9, 0, 0, 0, 1)), Field.of(2, (6, 4, 4, 8, 0, 4, 1))]


def hull(points):
    """The slopes and widths of the lower hull, by the least slope from each corner on."""
    found = []
    at = 0
    while at < len(points) - 1:
        slopes = [(Fraction(points[k][1] - points[at][1], points[k][0] - points[at][0]), -k)
                  for k in range(at + 1, len(points))]
        slope, k = min(slopes)
        found.append((slope, points[-k][0] - points[at][0]))
        at = -k
    return found


def line_by_words(size, values):
    """values(k, c) is the value of c times the number at x ** k, None for 0."""
    points = []
    for i in range(1, size + 1):
        told = [(k, values(k, comb(k, i))) for k in range(i, size + 1)]
        points.append((i, min(size * v + k - size for k, v in told if v is not None)))
    return tuple((ratio_of(-slope), width) for slope, width in hull(points)[::-1])


def least(prime, row, factor):
    return min((exponent(prime, n * factor) for n in row if n), default=None)


def line_of(field):
    return line_by_words(field.step_size, lambda k, c: least(field.prime, field.top[k], c))


def phi_by_words(line, size, x):
    return (x + sum(min(x, Fraction(*slope)) * width for slope, width in line)) / size


def drawn_numbers(draw, many):
    return [Fraction(draw.randint(0, 60), draw.choice((1, 1, 2, 3, 4, 7, 12))) for _ in range(many)] + [Fraction(0)]


def shown(number, draw):
    """A fraction as a number: as an integer if it is one, but not always."""
    return number.numerator if number.denominator == 1 and draw.random() < 0.7 else ratio_of(number)


class StepLineTest(unittest.TestCase, ErrorCase):

    def test_constants_and_examples(self):
        self.assertEqual((lines.MOST_TOWER, lines.MOST_DIGITS), (6, 60))
        self.assertEqual(
            [step_line(A), step_line(B), step_line(C), step_line(D), upper_steps(C), phi_at(C, 3), psi_at(C, (3, 2)),
             phi_at(A, (1, 2))],
            [(((1, 1), 1),), (((1, 1), 1),), (((3, 2), 2),), (), (((3, 2), 2),), (2, 1), (3, 2), (1, 2)])

    def test_lines(self):
        for field in STEPS_OF_ALL:
            told, e = step_line(field), field.step_size
            self.assertEqual(told, line_of(field))
            slopes = [Fraction(*slope) for slope, _ in told]
            self.assertEqual(slopes, sorted(set(slopes)))
            self.assertEqual(sum(width for _, width in told), e - 1)
            self.assertEqual(sum(Fraction(*slope) * width for slope, width in told), step_number(field))
            q = field.prime ** exponent(field.prime, e)
            self.assertEqual(dict(told).get((0, 1), 0), e - q)
            if e % field.prime:
                self.assertEqual(told, (((0, 1), e - 1),) if e > 1 else ())

    def test_drawn_tops(self):
        draw = drawer(1)
        for p, f, e in ((2, 1, 4), (2, 1, 6), (2, 3, 2), (2, 2, 3), (3, 1, 6), (3, 1, 3), (3, 2, 3), (5, 1, 5), (2, 2, 2)):
            for _ in range(40):
                first = (p * draw.choice((1, -1, 1 + p)),) + tuple(p * draw.randint(-3, 3) for _ in range(f - 1))
                rows = [tuple(p ** draw.randint(1, 4) * draw.randint(-3, 3) for _ in range(f)) for _ in range(e - 1)]
                field = Field(p, Field.plain(p, f).low, (first, *rows, (1,) + (0,) * (f - 1)))
                self.assertEqual(step_line(field), line_of(field))
                self.assertEqual(sum(Fraction(*s) * w for s, w in step_line(field)), step_number(field))

    def test_alike_fields_have_one_line(self):
        draw = drawer(2)
        for field in STEPS_OF_ALL:
            for other in alike_ones(draw, field):
                self.assertEqual(step_line(other), step_line(field))
        # The other way round is not true.
        self.assertEqual((step_line(A), are_alike(A, B)), (step_line(B), False))

    def test_wrong_inputs(self):
        self.check_parameters(step_line, (A,), (FIELD,))
        self.check_parameters(upper_steps, (A,), (FIELD,))
        self.check_parameters(phi_at, (A, (1, 2)), (FIELD, NUMBER))
        self.check_parameters(psi_at, (A, 0), (FIELD, NUMBER))


class PhiTest(unittest.TestCase, ErrorCase):

    def test_phi_and_psi(self):
        draw = drawer(3)
        for field in STEPS_OF_ALL:
            line, e = step_line(field), field.step_size
            for x in drawn_numbers(draw, 12) + [Fraction(*slope) for slope, _ in line]:
                told = phi_at(field, shown(x, draw))
                self.assertEqual(told, ratio_of(phi_by_words(line, e, x)))
                self.assertEqual(psi_at(field, told), ratio_of(x))
                up = psi_at(field, shown(x, draw))
                self.assertEqual(phi_by_words(line, e, Fraction(*up)), x)
                greatest = max((Fraction(*slope) for slope, _ in line), default=Fraction(0))
                self.assertEqual(phi_by_words(line, e, x + greatest), (x + greatest + step_number(field)) / e)
                self.assertEqual(phi_at(field, ratio_of(x + greatest)), ratio_of((x + greatest + step_number(field)) / e))

    def test_long_numbers(self):
        for field in (A, C, D, SIX):
            for x in (Fraction(BIG - 1), Fraction(BIG - 1, 10 ** 59 + 9), Fraction(1, BIG - 1)):
                told = phi_at(field, ratio_of(x))
                self.assertEqual(Fraction(*told), phi_by_words(step_line(field), field.step_size, x))
                self.assertEqual(phi_by_words(step_line(field), field.step_size, Fraction(*psi_at(field, ratio_of(x)))), x)

    def test_upper_steps(self):
        for field in STEPS_OF_ALL:
            told = tuple((phi_at(field, slope), width) for slope, width in step_line(field))
            self.assertEqual(upper_steps(field), told)
        self.assertEqual(step_line(C), (((3, 2), 2),))


def drawn_tower(draw, field, degree, size=2):
    r = ring.letters(field)[1]
    while True:
        unit = drawn_member(draw, field, size)
        if ring.value(field, unit) == 0:
            break
    rest = [ring.product(field, r, drawn_member(draw, field, size)) for _ in range(degree - 1)]
    return (ring.product(field, r, unit), *rest, ring.whole(field, 1))


def norm_by_table(field, h):
    """The determinant of the table by which the polynomial multiplies 1, r, .., with powers of x as entries."""
    rows = []
    for j in range(field.step_size):
        row = [{} for _ in range(field.step_size)]
        for k, number in enumerate(h):
            image = ring.product(field, number, ring.power(field, ring.letters(field)[1], j)) if field.step_size > 1 \
                else number
            for m in range(field.step_size):
                row[m][k] = image[m]
        rows.append(row)
    total = ring.plain_determinant(field, rows)
    most = (len(h) - 1) * field.step_size
    return tuple(total.get(k, (0,) * field.plain_size) for k in range(most + 1))


class TowerTest(unittest.TestCase, ErrorCase):

    def towers(self, seed):
        draw = drawer(seed)
        for field in FIELDS:
            for degree in range(1, 6 // field.degree + 1):
                for _ in range(2):
                    yield draw, field, drawn_tower(draw, field, degree)

    def test_example(self):
        told = tower_field(A, TOWER)
        self.assertEqual((told.top, told.low, told.prime), (((2,), (0,), (2,), (0,), (1,)), A.low, 2))
        self.assertEqual((step_line(A), tower_line(A, TOWER)), ((((1, 1), 1),), (((4, 1), 1),)))
        self.assertEqual(step_line(told), (((1, 1), 2), ((4, 1), 1)))

    def test_slopes_of_towers_are_others(self):
        # The field has the slope 2, the tower line the slope 1, and the field of the tower the slopes 1 and 3.
        field = Field.of(2, (2, 0, 1))
        tower = (((0,), (1,)), ((0,), (1,)), ONE)
        self.assertEqual((step_line(field), tower_line(field, tower)), ((((2, 1), 1),), (((1, 1), 1),)))
        self.assertEqual(step_line(tower_field(field, tower)), (((1, 1), 2), ((3, 1), 1)))

    def test_norms(self):
        for _, field, h in self.towers(4):
            told = tower_field(field, h)
            self.assertEqual((told.prime, told.low), (field.prime, field.low))
            self.assertEqual((told.step_size, told.plain_size), (field.step_size * (len(h) - 1), field.plain_size))
            if field.step_size < 6:
                self.assertEqual(told.top, norm_by_table(field, h))

    def test_fields_and_roots(self):
        for _, field, h in self.towers(5):
            told = tower_field(field, h)
            self.assertTrue(does_lead(field, told))
            if len(h) == 2:
                # The root is a member of the field itself.
                self.assertTrue(are_alike(field, told))
                root = over.scaled(h[0], -1)
                self.assertIs(is_lead(told, field, (low_letter(field), root)), True)
                self.assertIs(is_near_root(field, tuple(over.with_zeros(field, row) for row in told.top), root), True)

    def test_towers_over_fields_without_steps(self):
        for field in FIELDS:
            if field.step_size == 1 and field.degree <= 3:
                h = drawn_tower(drawer(6), field, 6 // field.degree)
                self.assertEqual(tower_field(field, h).top, tuple(row[0] for row in h))
                self.assertEqual(tower_line(field, h), step_line(tower_field(field, h)))

    def test_lines_and_joined_phi(self):
        wild = 0
        for draw, field, h in self.towers(7):
            told, m = tower_field(field, h), len(h) - 1
            line = tower_line(field, h)
            self.assertEqual(line, line_by_words(m, lambda k, c: ring.value(field, over.scaled(h[k], c))))
            self.assertEqual(sum(width for _, width in line), m - 1)
            for x in drawn_numbers(draw, 5) + [Fraction(*slope) for slope, _ in step_line(told)]:
                joined = joined_phi(field, h, shown(x, draw))
                self.assertEqual(joined, phi_at(told, ratio_of(x)))
                lower = phi_by_words(line, m, x)
                self.assertEqual(fraction_of(joined), phi_by_words(step_line(field), field.step_size, lower))
            wild += told.step_size % field.prime == 0 and m > 1
        self.assertGreater(wild, 15)

    def test_degrees_of_one_and_limits(self):
        for field in (A, C, D, SIX):
            r = ring.letters(field)[1]
            self.assertEqual(tower_field(field, (over.scaled(r, -1), ring.whole(field, 1))).top, field.top)
            self.assertEqual(tower_line(field, (r, ring.whole(field, 1))), ())
            for degree in range(1, 7):
                h = (r,) + (ring.whole(field, 0),) * (degree - 1) + (ring.whole(field, 1),)
                if degree * field.degree > 6:
                    self.assert_too_many(6, tower_field, field, h)
                    self.assert_too_many(6, tower_line, field, h)
                    self.assert_too_many(6, joined_phi, field, h, 1)
                else:
                    self.assertEqual(tower_field(field, h).degree, degree * field.degree)

    def test_lengths(self):
        # The norm of x x + .. has the squares of the numbers: thirty digits are let, thirty-one are not.
        for a in (10 ** 29, 10 ** 30 - 2, 10 ** 30, 10 ** 30 + 2, 2 * 10 ** 30, 10 ** 59):
            h = (((0,), (1,)), ((a,), (0,)), ONE)
            top = norm_by_table(A, h)
            if all(abs(n) < BIG for row in top for n in row):
                self.assertLessEqual(a, 10 ** 30)
                self.assertEqual(tower_field(A, h).top, top)
            else:
                self.assertGreater(a, 10 ** 30)
                for function, args in ((tower_field, ()), (tower_line, ()), (joined_phi, (0,))):
                    self.assert_too_many(60, function, A, h, *args)
        # Degrees come ahead of lengths.
        self.assert_too_many(6, tower_field, A, (((0,), (1,)), ZERO, ZERO, ((2 * 10 ** 58,), (0,)), ONE))

    def test_wrong_inputs(self):
        polynomial = (InvalidPolynomial, WRONG_TOWERS)
        self.check_parameters(tower_field, (A, TOWER), (FIELD, polynomial))
        self.check_parameters(tower_line, (A, TOWER), (FIELD, polynomial))
        self.check_parameters(joined_phi, (A, TOWER, (7, 2)), (FIELD, polynomial, NUMBER))
        # A wrong number comes ahead of errors with "then".
        deep = (((0,), (1,)), ZERO, ZERO, ZERO, ONE)
        self.assert_refused(InvalidNumber, -1, joined_phi, (A, deep, -1))
        self.assert_too_many(6, joined_phi, A, deep, 1)

    def test_times(self):
        start, count = perf_counter(), 0
        for _, field, h in self.towers(8):
            tower_field(field, h), tower_line(field, h)
            count += 1
        self.assertLess((perf_counter() - start) / count, 0.2)


if __name__ == "__main__":
    unittest.main()
