"""Stage 14: lower and upper lots."""

import unittest
from fractions import Fraction

from tests import ring
from tests.samples import A, B, C, D
from tests.test_fields import WRONG_FIELDS
from tests.test_maps import MORE
from tests.test_selfs import WRONG_LOTS
from tests.test_steps import BELOW, phi_by_words
from tests.tools import BIG, NOTHING_LIKE_IT, ErrorCase, exponent, ratio_of
from wildsteps.errors import InvalidField, InvalidLot, InvalidNumber, InvalidOperation
from wildsteps.fields.fields import Field, low_letter, top_letter
from wildsteps.parts.parts import parts_of
from wildsteps.roots.maps import led_member
from wildsteps.selfs.selfs import fixed_size, is_commuting_field, is_whole, part_polynomial, self_maps, self_parts
from wildsteps.selfs.selfs import self_table
from wildsteps.steps import lots
from wildsteps.steps.lines import phi_at, psi_at, step_line, upper_steps
from wildsteps.steps.lists import fields_of
from wildsteps.steps.lots import lot_steps, lower_lot, map_depth, round_size, steps_at_part, upper_lot, upper_numbers

FIELD = (InvalidField, WRONG_FIELDS)
LISTED = [field for sizes in ((2, 1, 2), (2, 1, 4), (2, 2, 2), (3, 1, 3), (5, 1, 4)) for field in fields_of(*sizes)]
WHOLE = [field for field in MORE[::2] + MORE[-4:] + LISTED if is_whole(field)]
OTHERS = [field for field in MORE if not is_whole(field)]


def depth_by_images(field, pair):
    """The depth by the images of both letters, to the level 66."""
    t, r = low_letter(field), top_letter(field)
    letter, step = led_member(field, field, pair, t, 66), led_member(field, field, pair, r, 66)
    if not ring.near(field, letter, t, 66):
        return -1
    return None if ring.near(field, step, r, 66) else ring.value(field, ring.added(step, r, -1)) - 1


def lot_by_depths(depths, number):
    return tuple(k for k, depth in enumerate(depths) if depth is None or depth >= number)


def is_led_to_itself(table, part):
    identity = next(k for k in range(len(table)) if table[k] == tuple(range(len(table))))
    back = [row.index(identity) for row in table]
    return all(sorted(table[table[h][g]][back[h]] for g in part) == list(part) for h in range(len(table)))


class LotsTest(unittest.TestCase, ErrorCase):

    def test_constant_and_examples(self):
        self.assertEqual(lots.LEAST_LOT, -1)
        self.assertEqual(
            [map_depth(A, 0), map_depth(A, 1), lower_lot(A, 1), lower_lot(A, (3, 2)), upper_lot(A, 1), upper_lot(A, (3, 2)),
             lot_steps(A), round_size(A), upper_numbers(A)],
            [None, 1, (0, 1), (0,), (0, 1), (0,), ((1, 2),), 1, ((1, 1),)])

    def test_depths(self):
        for field in WHOLE:
            depths = [map_depth(field, k) for k in range(field.degree)]
            self.assertEqual(depths, [depth_by_images(field, pair) for pair in self_maps(field)])
            self.assertEqual(depths.count(None), 1)
            # Depths from 0 on are the slopes of the step line, each as often as its width.
            told = sorted(depth for depth in depths if depth is not None and depth >= 0)
            line = [slope for slope, width in step_line(field) for _ in range(width)]
            self.assertEqual([(depth, 1) for depth in told], line)

    def test_lower_and_upper_lots(self):
        for field in WHOLE:
            table, parts = self_table(field), self_parts(field)
            depths = [map_depth(field, k) for k in range(field.degree)]
            self.assertEqual(lower_lot(field, -1), tuple(range(field.degree)))
            self.assertEqual(len(lower_lot(field, 0)), field.step_size)
            before = tuple(range(field.degree))
            self.assertEqual((len(lower_lot(field, BIG - 1)), len(upper_lot(field, (BIG - 1, 2)))), (1, 1))
            for x in [Fraction(k, 2) for k in (-2, -1, 0, 1, 2, 4, 5, 6, 7)]:
                told = lower_lot(field, ratio_of(x))
                self.assertEqual(told, lot_by_depths(depths, x))
                self.assertTrue(told in parts and set(told) <= set(before))
                self.assertTrue(is_led_to_itself(table, told))
                before = told
                if x >= 0:
                    self.assertEqual(upper_lot(field, ratio_of(x)), lower_lot(field, psi_at(field, ratio_of(x))))
                    self.assertEqual(upper_lot(field, phi_at(field, ratio_of(x))), told)
            self.assertEqual(lower_lot(field, 3), lower_lot(field, (3, 1)))

    def test_steps(self):
        for field in WHOLE:
            sizes = {u: len(lower_lot(field, u)) for u in range(-1, 10)}
            told = tuple((u, sizes[u]) for u in range(-1, 9) if sizes[u] > sizes[u + 1])
            self.assertEqual(lot_steps(field), told)
            for u, size in told:
                if u >= 0:
                    wider = sum(width for slope, width in step_line(field) if Fraction(*slope) >= u)
                    self.assertEqual(size, 1 + wider)
            numbers = tuple(phi_at(field, u) for u, _ in told if u >= 0)
            self.assertEqual(upper_numbers(field), numbers)
            self.assertEqual(upper_numbers(field), tuple(number for number, _ in upper_steps(field)))
            if is_commuting_field(field):
                self.assertTrue(all(number[1] == 1 for number in numbers))

    def test_round_sizes(self):
        for field in WHOLE:
            e, p = field.step_size, field.prime
            told = round_size(field)
            self.assertEqual(told, e // p ** exponent(p, e))
            self.assertEqual((field.residues - 1) % told, 0)
            zero, one = lower_lot(field, 0), lower_lot(field, 1)
            self.assertEqual(told, len(zero) // len(one))
            table = self_table(field)
            identity = table.index(tuple(range(field.degree)))
            self.assertTrue(any(self.made(table, identity, s, one) == set(zero) for s in zero))
            back = [row.index(identity) for row in table]
            for u in range(1, 8):
                lot, lesser = lower_lot(field, u), lower_lot(field, u + 1)
                for s in lot:
                    power = identity
                    for _ in range(p):
                        power = table[s][power]
                    self.assertIn(power, lesser)
                    for t in lot:
                        self.assertIn(table[table[s][t]][back[table[t][s]]], lesser)

    def made(self, table, identity, s, lot):
        found, power = set(), identity
        for _ in table:
            found |= {table[power][g] for g in lot}
            power = table[s][power]
        return found

    def test_steps_at_parts(self):
        for field in WHOLE:
            depths = [map_depth(field, k) for k in range(field.degree)]
            for part in self_parts(field):
                inside = [depths[k] for k in part]
                sizes = {u: sum(d is None or d >= u for d in inside) for u in range(-1, 30)}
                told = tuple((u, sizes[u]) for u in range(-1, 29) if sizes[u] > sizes[u + 1])
                self.assertEqual(steps_at_part(field, part), told)
            self.assertEqual(steps_at_part(field, tuple(range(field.degree))), lot_steps(field))

    def test_fields_within(self):
        for field in WHOLE:
            table = self_table(field)
            depths = [map_depth(field, k) for k in range(field.degree)]
            for part in self_parts(field):
                if not is_led_to_itself(table, part):
                    continue
                within = parts_of(field.prime, part_polynomial(field, part))[0][0]
                self.assertTrue(is_whole(within))
                self.assertEqual(within.degree, fixed_size(field, part))
                inside = [depths[k] for k in part if depths[k] != -1]
                line = [(ratio_of(Fraction(depth)), 1) for depth in inside if depth is not None]
                for x in [Fraction(k, 3) for k in (0, 2, 3, 5, 9)]:
                    lower = phi_by_words(line, len(inside), x)
                    self.assertEqual(phi_at(field, ratio_of(x)), phi_at(within, ratio_of(lower)))
                    # What becomes of the upper lot, on the field within, is its upper lot.
                    upper = upper_lot(field, ratio_of(x))
                    classes = {tuple(sorted(table[g][h] for h in part)) for g in upper}
                    self.assertEqual(len(upper_lot(within, ratio_of(x))), len(classes))

    def test_what_is_not_true(self):
        six = Field.of(3, (3, 0, 0, 0, 0, 0, 1))
        self.assertEqual(upper_numbers(six)[-1], (3, 2))
        # The lower lots of a field within are not what becomes of the lower lots.
        found = False
        for field in WHOLE:
            table = self_table(field)
            for part in self_parts(field):
                if len(part) in (1, field.degree) or not is_led_to_itself(table, part):
                    continue
                within = parts_of(field.prime, part_polynomial(field, part))[0][0]
                for u in range(6):
                    classes = {tuple(sorted(table[g][h] for h in part)) for g in lower_lot(field, u)}
                    found = found or len(classes) != len(lower_lot(within, u))
        self.assertTrue(found)
        # Equal steps, other tables: a field of four maps that are made by one, and another one that is not.
        tables = {}
        for field in WHOLE:
            if (field.prime, field.degree) == (2, 4):
                squares = sum(self_table(field)[k][k] == self_table(field).index(tuple(range(4))) for k in range(4))
                tables.setdefault(lot_steps(field), set()).add(squares)
        self.assertIn({2, 4}, list(tables.values()))

    def test_fields_that_are_not_whole(self):
        self.assertTrue(OTHERS)
        for field in OTHERS:
            part = self_parts(field)[0]
            for function, args in ((map_depth, (field.degree - 1,)), (lower_lot, (0,)), (upper_lot, (0,)), (lot_steps, ()),
                                   (round_size, ()), (steps_at_part, (part,)), (upper_numbers, ())):
                self.assert_raises_just(InvalidOperation, function, field, *args)
            self.assert_refused(InvalidNumber, field.degree, map_depth, (field, field.degree))
            self.assert_refused(InvalidNumber, -2, lower_lot, (field, -2))
            self.assert_refused(InvalidNumber, (-1, 2), upper_lot, (field, (-1, 2)))
            self.assert_raises_just(InvalidLot, steps_at_part, field, (7,))

    def test_wrong_inputs(self):
        index = (InvalidNumber, NOTHING_LIKE_IT + (-1, 2, (0,), (0, 1), (1, 1), BIG, 10 ** 219))
        below = tuple(value for value in BELOW if value not in (-1, (-1, 2), (-1, 10 ** 50))) + (
            -2, (-3, 2), (-10 ** 50 - 1, 10 ** 50))
        self.check_parameters(map_depth, (A, 1), (FIELD, index))
        self.check_parameters(lower_lot, (A, (-1, 2)), (FIELD, (InvalidNumber, below)))
        self.check_parameters(upper_lot, (A, 0), (FIELD, (InvalidNumber, BELOW)))
        self.check_parameters(steps_at_part, (A, (0, 1)), (FIELD, (InvalidLot, WRONG_LOTS)))
        for function in (lot_steps, round_size, upper_numbers):
            self.check_parameters(function, (A,), (FIELD,))
        self.assertEqual((lower_lot(D, -1), lower_lot(D, (-1, 2)), lower_lot(D, 0)), ((0, 1), (0,), (0,)))
        self.assertEqual((lot_steps(D), upper_numbers(D), round_size(B)), (((-1, 2),), (), 1))
        self.assertEqual(lot_steps(Field.plain(5, 1)), ())
        self.assertFalse(is_whole(C))


if __name__ == "__main__":
    unittest.main()
