"""Stage 3: broken lines."""

import unittest
from fractions import Fraction

from tests.test_rests import by_roots, drawn, multiply
from tests.tools import BIG, NOTHING_LIKE_IT, PRIMES, WRONG_POLYNOMIALS, WRONG_PRIMES, ErrorCase, deep, drawer
from tests.tools import exponent, ratio_of
from wildsteps.errors import InvalidNumber, InvalidOperation, InvalidPolynomial, Refused
from wildsteps.prime import lines
from wildsteps.prime.lines import height_at, hull_of, is_line, is_regular, joined_lines, line_of, line_of_points
from wildsteps.prime.lines import line_sizes, residual
from wildsteps.prime.rests import factors_modulo, has_double_root

MANY = tuple((k, k * k) for k in range(60))
WRONG_POINTS = NOTHING_LIKE_IT + (
    (), ((),), ((1,),), ((1, 2, 3),), ((1, 2), (1, 3)), ((2, 1), (1, 1)), ((True, 1),), ((1, False),), ((1, None),),
    ([1, 2],), [(1, 2)], ((1, 2), [3, 4]), ((1, BIG),), ((-BIG, 1),), MANY + ((60, 1),), (1, 2), ((1, (2, 1)),),
    ((1, "2"),), (((1, 2),),), ((0, 0), (1, 10 ** 219)))
LONG_LINE = tuple(((k, 1), 1) for k in range(61))
WRONG_LINES = NOTHING_LIKE_IT + (
    ((),), (1,), ((1, 1),), (((1, 1),),), (((1, 1), 0),), (((1, 1), -1),), (((1, 1), True),), (((2, 2), 1),),
    (((1, 0), 1),), (((1, -1), 1),), (((True, 1), 1),), (((1, 1), 1), ((1, 1), 1)), (((2, 1), 1), ((1, 1), 1)),
    (((1, 2), 1), ((1, 3), 1)), (((1, 1), 1, 1),), ([(1, 1), 1],), [((1, 1), 1)], (([1, 1], 1),), LONG_LINE,
    (((0, 2), 1),), (((1, 1), (1, 1)),), (((1, 1), "1"),), ((1, 1), 1))


def heights_of(points):
    """The hull at each place by its words: the least one of all chords above the place."""
    found = {}
    for place in range(points[0][0], points[-1][0] + 1):
        chords = [Fraction(y) for x, y in points if x == place]
        for x, y in points:
            for further, height in points:
                if x < place < further:
                    chords.append(y + Fraction(height - y, further - x) * (place - x))
        found[place] = min(chords)
    return found


def drawn_points(draw, most=9, high=8):
    places = sorted(draw.sample(range(-20, 20), draw.randint(1, most)))
    return tuple((place, draw.randint(-high, high)) for place in places)


def newton_points(prime, polynomial):
    return tuple((k, exponent(prime, number)) for k, number in enumerate(polynomial) if number)


class HullsTest(unittest.TestCase, ErrorCase):

    def test_example_of_the_document(self):
        points = ((0, 2), (1, 2), (2, 0), (5, 1))
        told = [hull_of(points), line_of_points(points), height_at(((0, 2), (2, 0), (5, 1)), 3)]
        self.assertEqual(told, [((0, 2), (2, 0), (5, 1)), (((-1, 1), 2), ((1, 3), 3)), (1, 3)])
        self.assertEqual((lines.MAX_POINTS, lines.MAX_SIDES), (60, 60))

    def test_drawn_points(self):
        draw = drawer(1)
        for _ in range(200):
            points = drawn_points(draw)
            heights = heights_of(points)
            for place, height in heights.items():
                self.assertEqual(height_at(points, place), ratio_of(height))
            ends = (points[0][0], points[-1][0])
            bends = tuple((x, y) for x, y in points if y == heights[x] and
                          (x in ends or heights[x] - heights[x - 1] != heights[x + 1] - heights[x]))
            self.assertEqual(hull_of(points), bends)
            line = [(ratio_of(Fraction(b[1] - a[1], b[0] - a[0])), b[0] - a[0]) for a, b in zip(bends, bends[1:])]
            self.assertEqual(line_of_points(points), tuple(line))
            self.assertIs(is_line(tuple(line)), True)

    def test_points_on_a_side_are_no_corners(self):
        points = ((0, 4), (1, 2), (2, 0), (3, 0), (7, 0), (9, 1), (11, 2))
        self.assertEqual(hull_of(points), ((0, 4), (2, 0), (7, 0), (11, 2)))
        self.assertEqual(line_of_points(points), (((-2, 1), 2), ((0, 1), 5), ((1, 2), 4)))

    def test_one_point(self):
        for point in ((0, 0), (-7, 12), (BIG - 1, 1 - BIG)):
            self.assertEqual(hull_of((point,)), (point,))
            self.assertEqual(line_of_points((point,)), ())
            self.assertEqual(height_at((point,), point[0]), (point[1], 1))
            ahead = point[0] - 1
            self.assert_refused(InvalidNumber, ahead, height_at, ((point,), ahead))

    def test_great_places_and_heights(self):
        points = ((1 - BIG, BIG - 1), (0, 1), (1, 1), (BIG - 1, 1 - BIG))
        self.assertEqual(hull_of(points), (points[0], points[-1]))
        self.assertEqual(line_of_points(points), (((-1, 1), 2 * BIG - 2),))
        self.assertEqual(height_at(points, 0), (0, 1))
        self.assertEqual(height_at(((0, 0), (BIG - 1, BIG - 2)), 1), (BIG - 2, BIG - 1))

    def test_sixty_points(self):
        self.assertEqual(hull_of(MANY), MANY)
        self.assertEqual(len(line_of_points(MANY)), 59)
        self.assertEqual(height_at(MANY, 59), (59 * 59, 1))
        for function in (hull_of, line_of_points):
            self.assert_raises_just(InvalidOperation, function, MANY + ((60, 3600),))
        self.assert_raises_just(InvalidOperation, height_at, MANY + ((60, 3600),), 3)

    def test_places_outside(self):
        points = ((2, 1), (5, 0))
        for place in (1, 6, -2, BIG - 1):
            self.assert_refused(InvalidNumber, place, height_at, (points, place))

    def test_wrong_inputs(self):
        rule = (InvalidOperation, WRONG_POINTS)
        for function in (hull_of, line_of_points):
            self.check_parameters(function, (((0, 2), (3, 1)),), (rule,))
        wrong = NOTHING_LIKE_IT + (-1, 4, BIG, (1,), (1, 1))
        self.check_parameters(height_at, (((0, 2), (3, 1)), 2), (rule, (InvalidNumber, wrong)))


class LinesTest(unittest.TestCase, ErrorCase):

    def drawn_line(self, draw):
        slopes = sorted({Fraction(draw.randint(-4, 4), draw.randint(1, 3)) for _ in range(draw.randint(0, 5))})
        return tuple((ratio_of(slope), draw.randint(1, 5)) for slope in slopes)

    def test_joined_lines(self):
        draw = drawer(2)
        for _ in range(200):
            one, other = self.drawn_line(draw), self.drawn_line(draw)
            widths = {}
            for slope, width in one + other:
                widths[Fraction(*slope)] = widths.get(Fraction(*slope), 0) + width
            told = tuple((ratio_of(slope), widths[slope]) for slope in sorted(widths))
            self.assertEqual(joined_lines(one, other), told)

    def test_sixty_slopes(self):
        sixty = LONG_LINE[:60]
        self.assertIs(is_line(sixty), True)
        self.assertEqual(joined_lines(sixty, ()), sixty)
        self.assertEqual(joined_lines((), ()), ())
        self.assertEqual(joined_lines(sixty, sixty), tuple((slope, 2) for slope, _ in sixty))
        self.assertEqual(joined_lines(sixty[:30], sixty[30:]), sixty)
        self.assertEqual(joined_lines(sixty[30:], sixty[:30]), sixty)
        self.assert_too_many(60, joined_lines, sixty, (((1, 2), 1),))
        self.assert_too_many(60, joined_lines, (((1, 2), 1),), sixty)
        self.assertEqual(len(joined_lines(sixty[1:], (((1, 2), 1),))), 60)

    def test_widths_can_become_longer(self):
        one = (((1, 1), BIG - 1),)
        self.assertEqual(joined_lines(one, one), (((1, 1), 2 * BIG - 2),))

    def test_judge_takes_all_values(self):
        self.check_judge(is_line, (), WRONG_LINES)
        for value in ((), (((-1, 1), 2), ((1, 3), 3)), (((10 ** 219, 7), 10 ** 219),)):
            self.assertIs(is_line(value), True)

    def test_wrong_inputs(self):
        wrong = WRONG_LINES + ((((BIG, 1), 1),), (((1, BIG), 1),), (((1, 1), BIG),), (((-10 ** 219, 1), 1),))
        rule = (InvalidOperation, wrong)
        self.check_parameters(joined_lines, ((((1, 1), 2),), (((1, 2), 3),)), (rule, rule))
        self.assert_raises_just(InvalidOperation, joined_lines, LONG_LINE[:60], (((100, 1), 0),))

    def test_polynomials(self):
        draw = drawer(3)
        for prime in PRIMES:
            for _ in range(60):
                polynomial = drawn(draw, draw.randint(1, 8), 60)
                polynomial = tuple(c * prime ** draw.randint(0, 3) for c in polynomial)
                if polynomial[0]:
                    told = line_of_points(newton_points(prime, polynomial))
                    self.assertEqual(line_of(prime, polynomial), told)

    def test_lines_tell_the_values_of_roots(self):
        draw = drawer(4)
        for prime in PRIMES:
            for _ in range(40):
                roots = [prime ** draw.randint(0, 3) * draw.choice((1, -1, 11, 13)) for _ in range(draw.randint(1, 8))]
                values = [exponent(prime, root) for root in roots]
                told = tuple(((-value, 1), values.count(value)) for value in sorted(set(values), reverse=True))
                self.assertEqual(line_of(prime, by_roots(draw.choice((1, -6)), roots)), told)

    def test_line_of_a_product(self):
        draw = drawer(5)
        for prime in PRIMES:
            for _ in range(60):
                one = tuple(c * prime ** draw.randint(0, 3) for c in drawn(draw, draw.randint(1, 4)))
                other = tuple(c * prime ** draw.randint(0, 3) for c in drawn(draw, draw.randint(1, 4)))
                if one[0] and other[0]:
                    told = joined_lines(line_of(prime, one), line_of(prime, other))
                    self.assertEqual(line_of(prime, multiply(one, other)), told)


class ResidualsTest(unittest.TestCase, ErrorCase):

    def test_by_their_words(self):
        draw = drawer(6)
        for prime in PRIMES:
            for _ in range(60):
                polynomial = tuple(c * prime ** draw.randint(0, 4) for c in drawn(draw, draw.randint(1, 8)))
                if not polynomial[0]:
                    continue
                points = newton_points(prime, polynomial)
                corners = hull_of(points)
                for (k, y), (slope, width) in zip(corners, line_of(prime, polynomial)):
                    h, d = -slope[0], slope[1]
                    told = []
                    for i in range(width // d + 1):
                        rest = Fraction(polynomial[k + d * i]) / Fraction(prime) ** (y - h * i)
                        told.append(rest.numerator * pow(rest.denominator, -1, prime) % prime)
                    self.assertEqual(residual(prime, polynomial, slope), tuple(told))
                    self.assertTrue(told[0] and told[-1])

    def test_slopes_of_either_sign(self):
        # Corners (0, 2), (2, 1), (3, 1), (4, 2), (6, 5).
        polynomial = (4, 0, 2, 2, 12, 0, 32)
        self.assertEqual(line_of(2, polynomial), (((-1, 2), 2), ((0, 1), 1), ((1, 1), 1), ((3, 2), 2)))
        for slope in ((-1, 2), (0, 1), (1, 1), (3, 2)):
            self.assertEqual(residual(2, polynomial, slope), (1, 1))
        self.assertEqual(residual(3, (9, 3, 1), (-1, 1)), (1, 1, 1))
        self.assertEqual(residual(5, (-3, 0, 5 * 2, 0, 25), (1, 2)), (2, 2, 1))
        self.assertEqual(residual(7, (49, 0, 49, 0, 2), (-1, 2)), (1, 0, 2))

    def test_slopes_that_are_no_sides(self):
        for slope in NOTHING_LIKE_IT + (-1, (-2, 2), (1, 1), (0, 1), (-1, 1, 1), [-1, 1], (True, 1), (-1, True),
                                        (-BIG, 1), (-1,), (1, -1)):
            self.assert_refused(InvalidNumber, slope, residual, (3, (9, 3, 1), slope))
        self.assert_refused(InvalidNumber, (True, 1), residual, (2, (1, 2), (True, 1)))
        self.assertEqual(residual(2, (1, 2), (1, 1)), (1, 1))
        self.assert_refused(InvalidNumber, (False, 1), residual, (2, (1, 1), (False, 1)))

    def test_regular_ones(self):
        for prime in PRIMES:
            self.assertIs(is_regular(prime, (prime, 0, 0, 1)), True)
            self.assertIs(is_regular(prime, (prime * prime, 2 * prime, 1)), False)
        self.assertIs(is_regular(2, (-5, 0, 1)), False)
        self.assertIs(has_double_root((-5, 0, 1)), False)
        self.assertIs(is_regular(3, (1, 0, 1)), True)
        self.assertIs(is_regular(3, (-1, 0, 1)), True)
        self.assert_refused_double(2, (-5, 0, 1))
        self.assert_refused_double(3, (1, 2, 1))

    def assert_refused_double(self, prime, polynomial):
        caught = self.assert_raises_just(Refused, line_sizes, prime, polynomial)
        self.assertEqual(caught.reason, ("double",))

    def test_regular_by_all_residuals(self):
        draw = drawer(7)
        for prime in PRIMES:
            for _ in range(80):
                polynomial = tuple(c * prime ** draw.randint(0, 2) for c in drawn(draw, draw.randint(1, 8)))
                if not polynomial[0]:
                    continue
                sizes, single = [], True
                for slope, _ in line_of(prime, polynomial):
                    for factor, count in factors_modulo(prime, residual(prime, polynomial, slope)):
                        sizes.append((slope[1], len(factor) - 1))
                        single = single and count == 1
                self.assertIs(is_regular(prime, polynomial), single)
                if single:
                    self.assertEqual(line_sizes(prime, polynomial), tuple(sorted(sizes)))
                    self.assertEqual(sum(e * f for e, f in sizes), len(polynomial) - 1)
                else:
                    self.assert_refused_double(prime, polynomial)

    def test_sizes_of_products(self):
        draw = drawer(8)
        lows = {2: (1, 1, 1), 3: (1, 0, 1), 5: (2, 0, 1), 7: (1, 0, 1)}
        for prime in PRIMES:
            for _ in range(40):
                whole, sizes = (1,), []
                for h, d in draw.sample([(0, 1), (1, 2), (1, 3), (2, 3), (3, 2), (1, 1), (5, 4)], 3):
                    piece, size = draw.choice((((prime - 1, 1), 1), (lows[prime], 2)))
                    degree = d * (len(piece) - 1)
                    if len(whole) + degree > 9:
                        continue
                    # The numbers p ** (h (m - i)) c_i at x ** (d i) have the piece as residual polynomial.
                    further = [0] * (degree + 1)
                    for i, c in enumerate(piece):
                        further[d * i] = c * prime ** (h * (len(piece) - 1 - i))
                    whole = multiply(whole, tuple(further))
                    sizes.append((d, size))
                if sizes:
                    self.assertEqual(line_sizes(prime, whole), tuple(sorted(sizes)))

    def test_one_line_and_other_sizes(self):
        self.assertEqual(line_of(3, (1, 0, 1)), line_of(3, (-1, 0, 1)))
        self.assertEqual(line_sizes(3, (1, 0, 1)), ((1, 2),))
        self.assertEqual(line_sizes(3, (-1, 0, 1)), ((1, 1), (1, 1)))
        self.assertEqual(line_sizes(2, (2, 0, 0, 0, 0, 0, 0, 0, 1)), ((8, 1),))
        self.assertEqual(line_sizes(7, (3, 5)), ((1, 1),))

    def test_polynomials_without_a_line(self):
        for polynomial in ((), (1,), (-4,), (0, 1), (0, 0, 3, 1)):
            for function in (line_of, is_regular, line_sizes):
                self.assert_raises_just(InvalidOperation, function, 2, polynomial)
            for slope in (None, (1, 2), (0, 1)):
                self.assert_raises_just(InvalidOperation, residual, 2, polynomial, slope)

    def test_wrong_inputs(self):
        rules = ((InvalidNumber, WRONG_PRIMES), (InvalidPolynomial, WRONG_POLYNOMIALS))
        for function in (line_of, is_regular, line_sizes):
            self.check_parameters(function, (2, (2, 0, 1)), rules)
        wrong = NOTHING_LIKE_IT + ((1, 2), -1, (-2, 4), deep(1, 3))
        self.check_parameters(residual, (2, (2, 0, 1), (-1, 2)), rules + ((InvalidNumber, wrong),))


if __name__ == "__main__":
    unittest.main()
