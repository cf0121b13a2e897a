"""The field of a ring that comes apart no more, with a member for the root."""

from wildsteps.fields.fields import Field
from wildsteps.fields.members import whole_low
from wildsteps.parts.linear import combined, inverse_table, unit_row
from wildsteps.parts.orders import place_in, product_to, radical_rows, size_of
from wildsteps.prime.determinants import determinant
from wildsteps.prime.modulo import least_irreducible
from wildsteps.prime.polys import derived
from wildsteps.prime.whole import digits_in_base, whole_power


def value_in_order(order, polynomial, member, modulus):
    """The value of a polynomial with integers at a member of a ring, in rests."""
    result = [0] * size_of(order)
    for number in polynomial[::-1]:
        product = product_to(order, result, member, modulus)
        result = [(entry + number * one) % modulus for entry, one in zip(product, order.one)]
    return result


def is_in_radical(order, row, rows, pivots):
    """Whether the powers of a member come to 0 modulo the prime."""
    told = place_in(order.base, row, rows, pivots)
    left = combined(told[:len(rows)] + [0], rows + [[0] * len(row)], order.base)
    return not any([(entry - less) % order.base for entry, less in zip(row, left)])


def residue_letter(order, low):
    """A member at which the low polynomial is 0, up to what comes to 0 modulo the prime."""
    many, prime = size_of(order), order.base
    rows, pivots = radical_rows(order)
    free = [unit_row(many, place) for place in range(many) if place not in pivots]
    index = 0
    letter = [0] * many
    while not is_in_radical(order, value_in_order(order, low, letter, prime), rows, pivots):
        index = index + 1
        letter = combined(digits_in_base(prime, index, len(free)), free, prime)
    return letter


def multiplication_rows(order, member):
    """The products of a member and of those that the sums are made of."""
    many = size_of(order)
    return [product_to(order, unit_row(many, place), member, order.modulus) for place in range(many)]


def inverse_in_order(order, unit):
    """The inverse of a member that does not come to 0."""
    inverse = inverse_table(order.base, order.modulus, multiplication_rows(order, unit))
    return combined(order.one, inverse, order.modulus)


def exact_letter(order, low):
    """A member at which the low polynomial is 0."""
    slopes = derived(low)
    letter = residue_letter(order, low)
    height = value_in_order(order, low, letter, order.modulus)
    while any(height):
        share = inverse_in_order(order, value_in_order(order, slopes, letter, order.modulus))
        change = product_to(order, height, share, order.modulus)
        letter = [(entry - less) % order.modulus for entry, less in zip(letter, change)]
        height = value_in_order(order, low, letter, order.modulus)
    return letter


def step_letter(order, plain_size):
    """A member of the value 1 in a ring with steps."""
    modulus = whole_power(order.base, plain_size + 1)
    for row in radical_rows(order)[0]:
        # The norm of a member has f times the value of the member.
        if determinant(multiplication_rows(order, row)) % modulus != 0:
            return row
    return None


def letter_products(order, letter, plain_size, step, step_size):
    """The products of powers of both letters, those with one power of the step letter together."""
    rows = []
    head = order.one
    for _ in range(step_size):
        row = head
        for _ in range(plain_size):
            rows.append(row)
            row = product_to(order, row, letter, order.modulus)
        head = product_to(order, head, step, order.modulus)
    return rows, head


def low_rows(numbers, plain_size, modulus):
    """The numbers as low members, in rests."""
    rests = [number % modulus for number in numbers]
    return tuple([tuple(rests[place:place + plain_size]) for place in range(0, len(rests), plain_size)])


def made_part(order, level):
    """The field of a ring that comes apart no more, and the member for its root, to the level."""
    prime, many = order.base, size_of(order)
    plain_size = many - len(radical_rows(order)[0])
    step_size = many // plain_size
    low = least_irreducible(prime, plain_size)
    letter = exact_letter(order, low)
    modulus = whole_power(prime, level)
    if step_size == 1:
        top = (whole_low(plain_size, -prime), whole_low(plain_size, 1))
        rows, _ = letter_products(order, letter, plain_size, order.one, 1)
        inverse = inverse_table(prime, order.modulus, rows)
    else:
        step = step_letter(order, plain_size)
        rows, head = letter_products(order, letter, plain_size, step, step_size)
        inverse = inverse_table(prime, order.modulus, rows)
        numbers = [-number for number in combined(head, inverse, order.modulus)]
        top = low_rows(numbers, plain_size, modulus) + (whole_low(plain_size, 1),)
    member = low_rows(combined(order.root, inverse, order.modulus), plain_size, modulus)
    return Field(prime, low, top), member
