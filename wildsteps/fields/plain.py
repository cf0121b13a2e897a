"""Fields without steps, roots of one, and turns."""

from wildsteps.checks import check_between, check_integer
from wildsteps.errors import InvalidMember, InvalidOperation
from wildsteps.fields.fields import MAX_FIELD_DEGREE, check_field, check_member, has_member_form, is_digit
from wildsteps.fields.members import are_close, low_power_modulo, low_product_modulo, low_sum, plain_depth
from wildsteps.fields.members import whole_low, with_low
from wildsteps.fields.near import lifted_root, low_letter_turned
from wildsteps.fields.residues import first_maker, is_residue_root, residue_log, residue_of, residue_order
from wildsteps.fields.residues import residue_root
from wildsteps.prime.numbers import check_level
from wildsteps.prime.rests import least_low
from wildsteps.prime.whole import whole_power


def check_digit(field, digit):
    """Refuse what is no field, and what is no digit of it."""
    check_field(field)
    if not is_digit(field, digit):
        raise InvalidMember("no digit of the field")


def is_told_near(field, value, told, level):
    """Whether the value is a member that is near to a told one to the level."""
    return has_member_form(field, value) and are_close(field, value, told, level)


def one_root(field, digit, level):
    """A member near, to the level, to the root of one of a digit."""
    depth = plain_depth(field, level)
    modulus = whole_power(field.prime, depth)
    near = tuple([entry % modulus for entry in digit])
    # Each turn raises a factor near to 1 to the power p ** f, which makes it nearer by f levels.
    for _ in range(depth // field.plain_size + 1):
        near = low_power_modulo(field.low, near, field.residues, modulus)
    return with_low(field, near)


def root_of_one(field, digit, level):
    """A member that is near to the root of one of a digit."""
    check_digit(field, digit)
    check_level(level)
    return one_root(field, digit, level)


def is_root_of_one(field, digit, level, value):
    """Whether the value is near to the root of one of a digit."""
    check_digit(field, digit)
    check_level(level)
    return is_told_near(field, value, one_root(field, digit, level), level)


def check_digit_not_zero(field, digit):
    """Refuse what is no digit, and then 0."""
    check_digit(field, digit)
    if not any(digit):
        raise InvalidOperation("no power of 0 is 1")


def digit_order(field, digit):
    """The least exponent from 1 on for which the rest of a digit gives 1."""
    check_digit_not_zero(field, digit)
    return residue_order(field, digit)


def least_maker(field):
    """The least digit whose order is q - 1."""
    check_field(field)
    return first_maker(field)


def digit_log(field, digit):
    """The exponent from 0 to q - 2 for which the rest of the least maker gives that of the digit."""
    check_digit_not_zero(field, digit)
    return residue_log(field, digit)


def plain_sizes(field):
    """The sizes of the fields without steps whose letter is in the field."""
    check_field(field)
    size = field.plain_size
    return tuple([count for count in range(1, size + 1) if size % count == 0])


def check_size(field, size, level):
    """Refuse what is no field, no size, no level."""
    check_field(field)
    check_between(size, 1, MAX_FIELD_DEGREE)
    check_level(level)


def lifted_member(field, polynomial, digit, level):
    """A member near, to the level, to the root of a polynomial that is near to the digit."""
    return with_low(field, lifted_root(field, polynomial, digit, plain_depth(field, level)))


def plain_letter(field, size, level):
    """A member near to a root of the least low polynomial of the size, None if there is none."""
    check_size(field, size, level)
    if field.plain_size % size != 0:
        return None
    polynomial = least_low(field.prime, size)
    return lifted_member(field, polynomial, residue_root(field, polynomial), level)


def is_plain_letter(field, size, level, value):
    """Whether the value is near to a root of the least low polynomial of the size."""
    check_size(field, size, level)
    if field.plain_size % size != 0 or not has_member_form(field, value):
        return False
    if level == 0:
        return True
    polynomial = least_low(field.prime, size)
    digit = residue_of(field, value[0])
    if not is_residue_root(field, polynomial, digit):
        return False
    return are_close(field, value, lifted_member(field, polynomial, digit, level), level)


def check_turn(field, times, level):
    """Refuse what is no count or level, and then fields with steps."""
    check_integer(times)
    check_level(level)
    if field.step_size != 1:
        raise InvalidOperation("a field with steps has no turn")


def letter_turned(field, times, level):
    """A low member near, to the level, to the letter t, turned so many times."""
    # Done f times the turn moves nothing, so counts of any sign and size can be reduced.
    return low_letter_turned(field, times % field.plain_size, level)


def turned_letter(field, times, level):
    """A member near, to the level, to the letter t, turned so many times."""
    check_field(field)
    check_turn(field, times, level)
    return with_low(field, letter_turned(field, times, level))


def member_turned(field, member, times, level):
    """A member near, to the level, to the member, turned so many times."""
    low, letter = field.low, letter_turned(field, times, level)
    modulus = whole_power(field.prime, level)
    result = whole_low(field.plain_size, 0)
    for entry in member[0][::-1]:
        product = low_product_modulo(low, result, letter, modulus)
        result = low_sum(product, whole_low(field.plain_size, entry % modulus))
    return with_low(field, tuple([entry % modulus for entry in result]))


def check_turned(field, member, times, level):
    """Refuse arguments for which no member is turned."""
    check_field(field)
    check_member(field, member)
    check_turn(field, times, level)


def turned_member(field, member, times, level):
    """A member near, to the level, to the member, turned so many times."""
    check_turned(field, member, times, level)
    return member_turned(field, member, times, level)


def is_turned(field, member, times, level, value):
    """Whether the value is near, to the level, to the member, turned so many times."""
    check_turned(field, member, times, level)
    return is_told_near(field, value, member_turned(field, member, times, level), level)
