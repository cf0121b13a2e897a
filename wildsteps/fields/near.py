"""Near arithmetic: inverses, quotients by members of value 1, rows of digits, and lifted roots.

Members are told by rests modulo a power of the prime, the modulus.
"""

from wildsteps.fields.members import letter_r, letter_t, low_product, low_product_modulo, low_sum, minus, plus
from wildsteps.fields.members import rests_to, times, times_r, times_whole, whole, whole_low, with_low
from wildsteps.fields.residues import residue_inverse, residue_of, residue_power, residue_value
from wildsteps.prime.polys import derived
from wildsteps.prime.whole import power_modulo, whole_power

# Up to so many powers of r are faster taken one by one.
MOST_TURNS = 6


def near_product(field, one, other, modulus):
    """The product, each integer a rest."""
    return rests_to(times(field, one, other), modulus)


def near_power(field, member, exponent, modulus):
    """The power of a member, each integer a rest."""
    result = None
    square = rests_to(member, modulus)
    left = exponent
    while left > 0:
        if left & 1:
            result = square if result is None else near_product(field, result, square, modulus)
        left = left >> 1
        if left > 0:
            square = near_product(field, square, square, modulus)
    return rests_to(whole(field, 1), modulus) if result is None else result


def times_letters(field, member, exponent, modulus):
    """The member times a power of r, each integer a rest."""
    if exponent > MOST_TURNS:
        return near_product(field, member, near_power(field, letter_r(field), exponent, modulus), modulus)
    result = member
    for _ in range(exponent):
        result = times_r(field, result)
    return rests_to(result, modulus)


def whole_inverse(prime, number, modulus):
    """The rest whose product with an integer leaves 1, modulo a power of a prime that does not divide it."""
    one = 1 % modulus
    inverse = power_modulo(number, prime - 2, prime) % modulus
    product = number * inverse % modulus
    while product != one:
        # Each turn doubles the level to which the product is near to 1.
        inverse = inverse * (2 - product) % modulus
        product = number * inverse % modulus
    return inverse


def near_inverse(field, unit, modulus):
    """The member of rests whose product with a member of value 0 leaves 1."""
    if field.degree == 1:
        return ((whole_inverse(field.prime, unit[0][0], modulus),),)
    one = rests_to(whole(field, 1), modulus)
    inverse = with_low(field, residue_inverse(field, residue_of(field, unit[0])))
    product = near_product(field, unit, inverse, modulus)
    while product != one:
        # Each turn doubles the level to which the product is near to 1.
        missing = minus(whole(field, 2), product)
        inverse = near_product(field, inverse, missing, modulus)
        product = near_product(field, unit, inverse, modulus)
    return inverse


def prime_by_letter(field, modulus):
    """The quotient of the prime and of r."""
    unit = with_low(field, tuple([entry // field.prime for entry in field.top[0]]))
    # a0 is p times this unit, and r times minus the rest of the top polynomial, divided by r.
    inverse = times_whole(near_inverse(field, unit, modulus), -1)
    return near_product(field, inverse, field.top[1:], modulus)


def by_letter(field, member, share, modulus):
    """The quotient of a member whose first digit is 0 and of r; the share is that of the prime."""
    first = with_low(field, tuple([entry // field.prime for entry in member[0]]))
    lowered = member[1:] + (whole_low(field.plain_size, 0),)
    return rests_to(plus(times(field, first, share), lowered), modulus)


def digit_row(field, member, base, many):
    """The first digits of a member by powers of a base of value 1."""
    # Each division loses one level, so there are e levels at least to spare.
    modulus = whole_power(field.prime, many // field.step_size + 2)
    share = prime_by_letter(field, modulus)
    factor = near_inverse(field, by_letter(field, base, share, modulus), modulus)
    digits = []
    left = rests_to(member, modulus)
    for _ in range(many):
        digit = residue_of(field, left[0])
        digits.append(digit)
        lowered = by_letter(field, minus(left, with_low(field, digit)), share, modulus)
        left = near_product(field, lowered, factor, modulus)
    return tuple(digits)


def low_value(low, polynomial, letter, modulus):
    """The value of a polynomial with integers at a low member, each integer a rest."""
    size = len(low) - 1
    result = whole_low(size, 0)
    for number in polynomial[::-1]:
        further = low_sum(low_product(low, result, letter), whole_low(size, number))
        result = tuple([entry % modulus for entry in further])
    return result


def lifted_root(field, polynomial, digit, depth):
    """The low member, near to a digit, at which the polynomial is 0 modulo p ** depth.

    The polynomial has integers, the value 0 at the digit, and another slope there.
    """
    low = field.low
    slopes = derived(polynomial)
    share = residue_inverse(field, residue_value(field, slopes, digit))
    root = digit
    known = 1
    while known < depth:
        # Each turn doubles the level to which the root, and the inverse of the slope there, are known.
        known = min(2 * known, depth)
        modulus = whole_power(field.prime, known)
        change = low_product(low, low_value(low, polynomial, root, modulus), share)
        root = tuple([(entry - less) % modulus for entry, less in zip(root, change)])
        if known < depth:
            product = low_product(low, low_value(low, slopes, root, modulus), share)
            missing = low_sum(whole_low(field.plain_size, 2), [0 - entry for entry in product])
            share = low_product_modulo(low, share, missing, modulus)
    modulus = whole_power(field.prime, depth)
    return tuple([entry % modulus for entry in root])


def low_letter_turned(field, exponent, depth):
    """The root of the low polynomial near to t ** (p ** exponent), modulo p ** depth."""
    letter = residue_of(field, letter_t(field))
    power = residue_power(field, letter, whole_power(field.prime, exponent))
    return lifted_root(field, field.low, power, depth)
