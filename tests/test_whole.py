"""The main promise, over the whole program: 0.13 to 0.17, by calls of several stages."""

import unittest
from fractions import Fraction
from itertools import combinations

from tests import over
from tests.samples import FIELDS, A, B, C, drawn_member
from tests.test_maps import MORE
from tests.test_norms import drawn_numbers
from tests.tools import PRIMES, drawer, exponent, fraction_of, ratio_of
from wildsteps.errors import Refused, TooMany
from wildsteps.fields.fields import Field, norm_of, top_letter
from wildsteps.fields.tops import field_by
from wildsteps.house.shelf import Shelf, decide, is_paper
from wildsteps.norms.commuting import is_lot_field, joined_lot, lot_field, met_lot, norm_lot, raised_lot
from wildsteps.norms.norms import is_norm_member, is_norm_test, norm_index, norm_level, norm_member, norm_test, test_at
from wildsteps.parts.parts import are_parts, is_unsplit, near_bound, part_sizes, parts_of
from wildsteps.prime.rests import discriminant, polynomial_product
from wildsteps.roots.maps import are_alike, are_bars, bars, does_lead, is_lead, lead
from wildsteps.roots.roots import depth_of, fence, is_fence, is_near_root, near_root, near_roots, roots_number
from wildsteps.selfs.selfs import is_commuting_field, is_whole, part_polynomial, self_number, self_parts
from wildsteps.signs.signs import sign_at, sign_places
from wildsteps.steps.exponents import field_discriminant, share_sum, step_number
from wildsteps.steps.lines import joined_phi, phi_at, step_line, tower_field
from wildsteps.steps.lists import are_all_fields, fields_of, kind_index
from wildsteps.text.texts import read_field, read_value, write_field, write_value

# A name that unittest does not take for a test.
value_at = test_at
SIZES = ((2, 1, 2), (2, 2, 2), (3, 1, 3), (5, 1, 4), (3, 2, 2), (7, 1, 3), (2, 1, 4))


def drawn_polynomial(draw, prime):
    """A monic polynomial without a double root, v of its discriminant being at most 10."""
    while True:
        polynomial = tuple(draw.randint(-9, 9) * prime ** draw.choice((0, 0, 1)) for _ in range(draw.randint(1, 4))) + (1,)
        number = discriminant(polynomial)
        if number and exponent(prime, number) <= 10:
            return polynomial


class PromiseTest(unittest.TestCase):

    def test_parts_show_how_polynomials_come_apart(self):
        draw = drawer(241)
        for _ in range(60):
            prime = draw.choice(PRIMES)
            g = drawn_polynomial(draw, prime)
            try:
                parts = parts_of(prime, g)
            except TooMany:
                self.assertGreater(max(prime ** f for _, f in part_sizes(prime, g)), 64)
                continue
            self.assertIs(are_parts(prime, g, parts), True)
            self.assertIs(is_unsplit(prime, g), len(parts) == 1)
            self.assertEqual(sorted((field.step_size, field.plain_size) for field, _ in parts), list(part_sizes(prime, g)))
            for field, _ in parts:
                # In its field each factor has a root, and the told verdict of a shelf is the same.
                numbers = over.whole_over(field, g)
                if depth_of(field, numbers) <= 66:
                    self.assertGreaterEqual(roots_number(field, numbers), 1)
                    self.assertIs(decide(prime, {"a": field, "g": g}, ("root", "g", "a"))[0], True)
                self.assertEqual(read_field(write_field(field)), field)
            self.assertEqual(read_value(write_value(parts)), parts)

    def test_parts_of_products(self):
        draw = drawer(242)
        for _ in range(25):
            prime = draw.choice(PRIMES)
            one, other = drawn_polynomial(draw, prime), drawn_polynomial(draw, prime)
            product = polynomial_product(one, other)
            if len(product) > 7 or not discriminant(product) or exponent(prime, discriminant(product)) > 30:
                continue
            self.assertEqual(part_sizes(prime, product), tuple(sorted(part_sizes(prime, one) + part_sizes(prime, other))))
            self.assertEqual(near_bound(prime, product), 2 * exponent(prime, discriminant(product)) + 1)

    def test_near_root_or_fence(self):
        draw = drawer(243)
        told = []
        for _ in range(150):
            field = draw.choice(MORE)
            g = tuple(drawn_member(draw, field, 4) for _ in range(draw.randint(1, 3))) + (over.whole_over(field, (1,))[0],)
            try:
                root, wall = near_root(field, g), fence(field, g)
            except (Refused, TooMany):
                continue
            self.assertIs(root is None, wall is not None)
            told.append(root is None)
            if root is not None:
                self.assertIs(is_near_root(field, g, root), True)
                self.assertGreaterEqual(len(near_roots(field, g)), 1)
            else:
                self.assertIs(is_fence(field, g, wall), True)
                self.assertEqual(near_roots(field, g), ())
        self.assertTrue(told.count(True) > 20 and told.count(False) > 20)

    def test_lead_or_bars(self):
        draw = drawer(244)
        for _ in range(150):
            one = draw.choice(MORE)
            other = draw.choice([field for field in MORE if field.prime == one.prime])
            pair, wall = lead(one, other), bars(one, other)
            self.assertIs(pair is None, wall is not None)
            self.assertIs(does_lead(one, other), wall is None)
            if pair is not None:
                self.assertIs(is_lead(one, other, pair), True)
                self.assertEqual(joined_lot(norm_lot(one), norm_lot(other)), norm_lot(one))
            else:
                self.assertIs(are_bars(one, other, wall), True)
            self.assertEqual(decide(one.prime, {"a": one, "b": other}, ("lead", "a", "b")), (pair is not None, pair or wall))

    def test_complete_lists(self):
        for sizes in SIZES[:6]:
            fields = fields_of(*sizes)
            self.assertEqual(share_sum(fields), (1, sizes[1]))
            self.assertIs(are_all_fields(*sizes, fields), True)
            for field in fields:
                # By a member of value 1 an alike field, with one line, one step number and one lot of norms.
                other = field_by(field, tuple(tuple(-number for number in row) for row in top_letter(field)))
                self.assertEqual(kind_index(other, fields), fields.index(field))
                self.assertEqual((step_line(other), step_number(other)), (step_line(field), step_number(field)))
                self.assertEqual(norm_lot(other), norm_lot(field))

    def test_lines_of_fields_in_one_another(self):
        for field, polynomial in ((A, (((0,), (1,)), ((0,), (0,)), ((1,), (0,)))), (C, (((0,), (1,), (0,)), ((1,), (0,), (0,)))),
                                  (B, (((0,), (1,)), ((2,), (0,)), ((2,), (2,)), ((1,), (0,))))):
            tower = tower_field(field, polynomial)
            self.assertIs(does_lead(field, tower), True)
            for x in [Fraction(k, 3) for k in range(30)]:
                self.assertEqual(joined_phi(field, polynomial, ratio_of(x)), phi_at(tower, ratio_of(x)))

    def test_norms_and_self_maps(self):
        listed = [field for sizes in SIZES for field in fields_of(*sizes)[::3]]
        for field in FIELDS + listed:
            self.assertLessEqual(self_number(field), field.degree)
            whole = is_whole(field) and is_commuting_field(field)
            self.assertIs(norm_index(field) == field.degree, whole)
            if whole and field.degree <= 4:
                lot = norm_lot(field)
                told = lot_field(raised_lot(lot, 40))
                self.assertIs(are_alike(told, field), True)
                self.assertIs(is_lot_field(lot, field), True)
        lots = [norm_lot(field) for field in fields_of(2, 1, 2)]
        for one, other in combinations(lots, 2):
            # Both fields are in the one whose norms are in both lots.
            both = lot_field(met_lot(one, other))
            self.assertTrue(does_lead(lot_field(one), both) and does_lead(lot_field(other), both))

    def test_fields_within_have_more_norms(self):
        for field in [field for field in MORE if is_whole(field)][::2]:
            for part in self_parts(field):
                within, _ = parts_of(field.prime, part_polynomial(field, part))[0]
                self.assertEqual(joined_lot(norm_lot(within), norm_lot(field)), norm_lot(within))

    def test_member_or_test(self):
        draw = drawer(245)
        for field in MORE:
            for number in drawn_numbers(draw, 4):
                member, test = norm_member(field, number), norm_test(field, number)
                self.assertIs(member is None, test is not None)
                if member is None:
                    self.assertIs(is_norm_test(field, number, test), True)
                    self.assertNotEqual(value_at(field.prime, norm_level(field), test, number), (0, 1))
                else:
                    self.assertIs(is_norm_member(field, number, member), True)
                    self.assertEqual(member is not None, number in norm_lot(field))
                    # The quotient by the norm is a norm, too.
                    self.assertIn(ratio_of(fraction_of(number) / norm_of(field, member)), norm_lot(field))

    def test_signs_of_norms(self):
        for number in (-1, 2, 3, 5, -6, 10):
            for other in (-1, 2, 3, 7, -5):
                for prime in PRIMES:
                    parts = parts_of(prime, (-number, 0, 1)) if number != 1 else ()
                    wanted = len(parts) == 2 or other in norm_lot(parts[0][0])
                    self.assertIs(sign_at(prime, number, other) == 1, wanted)
                    self.assertIs(prime in sign_places(number, other), not wanted)


class NotTrueTest(unittest.TestCase):

    def test_fields_with_one_discriminant_and_one_line_are_alike(self):
        one, other = Field.of(2, (2, 0, 0, 0, 1)), Field.of(2, (2, 0, 4, 0, 1))
        self.assertEqual((one.degree, field_discriminant(one)), (other.degree, field_discriminant(other)))
        self.assertEqual(step_line(one), step_line(other))
        self.assertIs(are_alike(one, other), False)

    def test_polynomials_alike_modulo_four_make_one_field(self):
        one, other = parts_of(2, (1, 0, 1))[0][0], parts_of(2, (5, 0, 1))[0][0]
        self.assertIs(are_alike(one, other), False)

    def test_steps_are_integers(self):
        self.assertEqual(step_line(C), (((3, 2), 2),))

    def test_index_of_the_norms_is_the_degree(self):
        self.assertEqual((norm_index(C), C.degree), (1, 3))

    def test_each_field_of_degree_four_has_one_of_degree_two_within(self):
        twos = fields_of(2, 1, 2) + fields_of(2, 2, 1)
        without = [field for field in fields_of(2, 1, 4) if not any(does_lead(two, field) for two in twos)]
        self.assertGreater(len(without), 0)
        self.assertEqual({norm_index(field) for field in without}, {1})


class HouseTest(unittest.TestCase):

    def test_a_shelf_of_all_stages(self):
        draw = drawer(246)
        for _ in range(15):
            prime = draw.choice(PRIMES)
            fields = [field for field in FIELDS if field.prime == prime]
            things = {"a": draw.choice(fields), "b": draw.choice(fields), "f": drawn_polynomial(draw, prime)}
            shelf = Shelf(prime, things)
            questions = [("root", "f", "a"), ("lead", "a", "b"), ("norm", draw.choice((-1, 2, 3, 30)), "b")]
            for question in questions:
                shelf.pin(question)
            shelf.edit((("shift", "f", 2), ("by", "a", top_letter(things["a"]))))
            self.assertEqual(shelf.fallen, ())
            for n, question in enumerate(questions):
                word, verdict, paper = shelf.standing(n + 1)
                self.assertIn(word, ("stands", "another"))
                self.assertIs(is_paper(prime, shelf.things_at(), question, verdict, paper), True)
                self.assertEqual(read_value(write_value(paper)), paper)


if __name__ == "__main__":
    unittest.main()
