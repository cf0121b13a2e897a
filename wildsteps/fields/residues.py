"""Digits as residues: sums and products of them modulo r, their orders and logs."""

from wildsteps.fields.members import low_power_modulo, low_product_modulo, low_sum, whole_low
from wildsteps.prime.whole import digits_in_base


def residue_of(field, low_member):
    """The digit of a low member."""
    return tuple([entry % field.prime for entry in low_member])


def digit_by_index(field, index):
    """The digit with the index in Python's order."""
    return digits_in_base(field.prime, index, field.plain_size)[::-1]


def residue_product(field, one, other):
    """The product of two digits."""
    return low_product_modulo(field.low, one, other, field.prime)


def residue_power(field, digit, exponent):
    """The power of a digit."""
    return low_power_modulo(field.low, digit, exponent, field.prime)


def residue_inverse(field, digit):
    """The inverse of a digit other than 0."""
    return residue_power(field, digit, field.residues - 2)


def residue_value(field, polynomial, digit):
    """The value of a polynomial with integers at a digit."""
    result = whole_low(field.plain_size, 0)
    for number in polynomial[::-1]:
        product = low_product_modulo(field.low, result, digit, field.prime)
        result = residue_of(field, low_sum(product, whole_low(field.plain_size, number)))
    return result


def is_residue_root(field, polynomial, digit):
    """Whether a polynomial with integers is 0 at a digit."""
    return not any(residue_value(field, polynomial, digit))


def residue_root(field, polynomial):
    """The least digit at which a polynomial with integers is 0, None if there is none."""
    for index in range(field.residues):
        digit = digit_by_index(field, index)
        if is_residue_root(field, polynomial, digit):
            return digit
    return None


def residue_order(field, digit):
    """The least exponent from 1 on for which a digit other than 0 gives 1."""
    one = whole_low(field.plain_size, 1)
    power = digit
    order = 1
    while power != one:
        power = residue_product(field, power, digit)
        order = order + 1
    return order


def first_maker(field):
    """The least digit whose powers are all digits other than 0."""
    for index in range(1, field.residues):
        digit = digit_by_index(field, index)
        if residue_order(field, digit) == field.residues - 1:
            return digit
    return None


def residue_log(field, digit):
    """The exponent from 0 on for which the least maker gives a digit other than 0."""
    maker = first_maker(field)
    power = whole_low(field.plain_size, 1)
    exponent = 0
    while power != digit:
        power = residue_product(field, power, maker)
        exponent = exponent + 1
    return exponent
