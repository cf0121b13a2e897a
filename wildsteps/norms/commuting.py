"""Lots of numbers of finite index, and the fields with commuting self maps that they tell."""

from math import lcm

from wildsteps.checks import check_between, has_short_integers, is_any_number, is_integer_tuple
from wildsteps.errors import InvalidLot, InvalidOperation, TooMany
from wildsteps.fields.fields import MAX_RESIDUES, Field, check_field
from wildsteps.norms.makers import norm_makers, order_vectors, rows_of_norms, unit_vectors
from wildsteps.norms.places import check_place_level, least_level, level_of_powers, orders_of, place_of
from wildsteps.norms.rows import column_of_inverse, heads_product, is_made, met_rows, rows_of
from wildsteps.norms.search import are_units_in, field_of_rows, has_norm_rows, residues_of_rows
from wildsteps.prime.numbers import MAX_EXPONENT, check_prime, top_and_bottom

MOST_ROWS = 12
MOST_LOT_INDEX = 4
MOST_ONES_POWER = 40
MOST_ONES_SIZE = 1000


def is_row(value, width):
    """Whether the value is a row of so many integers of at most sixty digits."""
    return is_integer_tuple(value) and len(value) == width and has_short_integers(value)


def check_rows(value, width):
    """Refuse what is no tuple of rows, or what tells no lot of finite index."""
    if not isinstance(value, tuple) or not 1 <= len(value) <= MOST_ROWS:
        raise InvalidLot("rows are a tuple of 1 to 12")
    if not all([is_row(row, width) for row in value]):
        raise InvalidLot("a row has as many integers as places have coordinates")
    if not any([row[0] for row in value]):
        raise InvalidLot("no row has a first integer other than 0")


class NumberLot:
    """A lot of numbers of finite index, told for a level by rows."""

    def __init__(self, prime, level, rows):
        check_prime(prime)
        check_place_level(prime, level)
        orders = orders_of(prime, level)
        check_rows(rows, len(orders) + 1)
        self._prime = prime
        self._level = level
        self._rows = rows_of(list(rows) + order_vectors(orders), len(orders) + 1)

    @property
    def lot_prime(self):
        """The prime."""
        return self._prime

    @property
    def lot_level(self):
        """The level for which the lot was told."""
        return self._level

    @property
    def lot_rows(self):
        """The only triangular rows of the lot."""
        return self._rows

    @property
    def lot_index(self):
        """The index among all numbers other than 0."""
        return heads_product(self._rows)

    def __contains__(self, x):
        if not is_any_number(x) or top_and_bottom(x)[0] == 0:
            return False
        return is_made(self._rows, place_of(self._prime, x, self._level))

    def __eq__(self, other):
        # Rows are rows for each greater level, too, as they make the multiples of the lesser orders.
        return isinstance(other, NumberLot) and self._prime == other._prime and self._rows == other._rows

    def __str__(self):
        return f"lot of index {self.lot_index} at {self._prime}"


def check_lot(lot):
    """Refuse what is no lot."""
    if not isinstance(lot, NumberLot):
        raise InvalidLot("no lot")


def units_row(prime, level):
    """A row that tells, alone, the lot of all numbers whose units are near to 1 to a level."""
    return (1,) + (0,) * len(orders_of(prime, level))


def made_lot(prime, level, rows):
    """The lot with these triangular rows, whose integers can have any length."""
    lot = NumberLot(prime, level, (units_row(prime, level),))
    lot._rows = rows
    return lot


def raised_lot(lot, level):
    """The same lot, told for a level that is not less."""
    check_lot(lot)
    check_place_level(lot.lot_prime, level)
    if level < lot.lot_level:
        raise InvalidOperation("a lesser level")
    return made_lot(lot.lot_prime, level, lot.lot_rows)


def check_lots(one, other):
    """Refuse what is no lot, and lots of unlike primes."""
    check_lot(one)
    check_lot(other)
    if one.lot_prime != other.lot_prime:
        raise InvalidOperation("lots of unlike primes")


def joined_lot(one, other):
    """The lot of all products of numbers of both."""
    check_lots(one, other)
    rows = rows_of(one.lot_rows + other.lot_rows, len(one.lot_rows))
    return made_lot(one.lot_prime, max(one.lot_level, other.lot_level), rows)


def met_lot(one, other):
    """The lot of all numbers that are in both."""
    check_lots(one, other)
    level = max(one.lot_level, other.lot_level)
    return made_lot(one.lot_prime, level, met_rows(one.lot_rows, other.lot_rows))


def norm_lot(field):
    """The lot of the norms of a field."""
    check_field(field)
    told = norm_makers(field)
    return made_lot(field.prime, told.depth, rows_of_norms(told))


def is_lot_field(lot, value):
    """Whether the value is a field that has the index as its degree, and the lot as its norms."""
    check_lot(lot)
    if not isinstance(value, Field) or value.prime != lot.lot_prime or value.degree != lot.lot_index:
        return False
    return has_norm_rows(value, lot.lot_rows)


def lot_field(lot):
    """The field whose norms are the lot."""
    check_lot(lot)
    if lot.lot_index > MOST_LOT_INDEX:
        raise TooMany(MOST_LOT_INDEX)
    if residues_of_rows(lot.lot_prime, lot.lot_rows) > MAX_RESIDUES:
        raise TooMany(MAX_RESIDUES)
    return field_of_rows(lot.lot_prime, lot.lot_rows)


def ones_within(lot):
    """The least exponents for which the lot has all units near to 1, and a power of the prime."""
    check_lot(lot)
    rows = lot.lot_rows
    power = 0
    while not are_units_in(lot.lot_prime, lot.lot_level, power, rows):
        power = power + 1
    size = 1
    for place in range(len(rows)):
        size = lcm(size, column_of_inverse(rows, place)[0][1])
    return (power, size)


def ones_lot(prime, power, size):
    """The lot that p ** size and all units that leave 1 modulo p ** power make."""
    check_prime(prime)
    check_between(power, 0, MOST_ONES_POWER)
    check_between(size, 1, MOST_ONES_SIZE)
    level = max(power, least_level(prime))
    row = (size,) + (0,) * len(orders_of(prime, level))
    return NumberLot(prime, level, tuple([row] + unit_vectors(prime, level, power)))


def power_lot(prime, exponent):
    """The lot of all powers with the exponent."""
    check_prime(prime)
    check_between(exponent, 1, MAX_EXPONENT)
    level = level_of_powers(prime, exponent)
    width = len(orders_of(prime, level)) + 1
    rows = [(0,) * place + (exponent,) + (0,) * (width - place - 1) for place in range(width)]
    return NumberLot(prime, level, tuple(rows))
