"""Polynomials with integers for the fields within that lots of self maps leave."""

from wildsteps.checks import is_integer_tuple
from wildsteps.fields.members import letter_members, plus, rests_to, times, times_whole, whole
from wildsteps.fields.tables import number_trace, trace_rows
from wildsteps.parts.parts import MAX_CLOSE, closeness, is_unsplit
from wildsteps.prime.whole import digits_in_base, exponent_of, inverse_modulo, whole_power
from wildsteps.roots.balls import roots_by_depth
from wildsteps.roots.leads import image_near
from wildsteps.roots.near import slope_value
from wildsteps.roots.over import whole_over
from wildsteps.selfs.images import leaving_maps, map_images

# Most parts have a polynomial that few levels tell.
FIRST_LEVEL = 24
FIRST_TURNS = 9
NEAR_LEVEL = 80
MOST_DEPTH = 66


def added_images(field, leads, part, level):
    """The sums of what the maps of a part make of the products of powers of both letters."""
    images = map_images(field, [leads[index] for index in part], level)
    found = []
    for member in letter_members(field)[1:]:
        total = whole(field, 0)
        for image in images:
            total = plus(total, image_near(field, field, image, member, level))
        found.append(total)
    return found


def quotient_near(prime, modulus, number, divisor):
    """The quotient of a rest and of an integer that divides what it stands for."""
    power = whole_power(prime, exponent_of(prime, divisor))
    return number * inverse_modulo(divisor // power, modulus) % modulus // power


def polynomial_by_sums(prime, modulus, sums):
    """The monic polynomial whose roots have these sums of powers, from the first one on, in rests."""
    numbers = [1]
    for count in range(1, len(sums) + 1):
        total = sum([numbers[count - place] * sums[place - 1] for place in range(1, count + 1)])
        numbers.append(quotient_near(prime, modulus, -total % modulus, count))
    return tuple(numbers[::-1])


def polynomial_within(field, member, size, degree, modulus):
    """The polynomial of a member that all maps of a part of the size leave, of the degree of the field within."""
    rows, letters = trace_rows(field)
    sums = []
    power = whole(field, 1)
    for _ in range(degree):
        power = rests_to(times(field, power, member), modulus)
        trace = number_trace(field.low, rows, letters, power)
        # Over the field within each trace is that of the whole field, divided by the size of the part.
        sums.append(quotient_near(field.prime, modulus, trace % modulus, size))
    return polynomial_by_sums(field.prime, modulus, sums)


def mixed(field, members, shares):
    """The sum of members, each times an integer."""
    result = whole(field, 0)
    for member, share in zip(members, shares):
        result = plus(result, times_whole(member, share))
    return result


def is_close_enough(field, value):
    """Whether polynomials with a discriminant of this value have parts, and roots that can be told."""
    return value is not None and value <= MAX_CLOSE and field.step_size * value <= MOST_DEPTH


def polynomial_to(field, leads, part, levels, most):
    """A polynomial that powers of the prime up to some exponent tell, None if none of so many is told by them."""
    prime = field.prime
    degree = field.degree // len(part)
    members = added_images(field, leads, part, levels * field.step_size)
    modulus = whole_power(prime, levels)
    # Quotients by the size of the part, and by the integers up to the degree, lose so much.
    lost = sum([exponent_of(prime, number) for number in [len(part)] + list(range(1, degree + 1))])
    for index in range(1, most):
        member = mixed(field, members, digits_in_base(prime, index, len(members)))
        polynomial = polynomial_within(field, member, len(part), degree, modulus)
        value = closeness(prime, polynomial)
        if is_close_enough(field, value) and 2 * value + 1 + lost <= levels:
            return near_polynomial(prime, polynomial, value)
    return None


def fixed_polynomial(field, leads, part):
    """A polynomial with integers whose roots make the field that a part leaves."""
    if field.degree == len(part):
        return (0, 1)
    polynomial = polynomial_to(field, leads, part, FIRST_LEVEL, FIRST_TURNS)
    if polynomial is None:
        return polynomial_to(field, leads, part, NEAR_LEVEL, whole_power(field.prime, field.degree))
    return polynomial


def near_polynomial(prime, polynomial, value):
    """A monic polynomial near enough to have the same fields, with rests as numbers."""
    modulus = whole_power(prime, 2 * value + 1)
    return tuple([number % modulus for number in polynomial[:-1]]) + (1,)


def is_monic(value, degree):
    """Whether the value is a monic polynomial of the degree, with integers of any length."""
    return is_integer_tuple(value) and len(value) == degree + 1 and value[-1] == 1


def has_left_root(field, leads, part, polynomial, value):
    """Whether a root in the field of a polynomial, its discriminant having the value, is left by all of a part."""
    numbers = whole_over(field, polynomial)
    for root in roots_by_depth(field, numbers, field.step_size * value):
        kept = leaving_maps(field, leads, root, slope_value(field, numbers, root))
        if all([index in kept for index in part]):
            return True
    return False


def judged_polynomial(field, leads, part, value):
    """Whether the value is a polynomial for the field that a part leaves."""
    if not is_monic(value, field.degree // len(part)):
        return False
    closest = closeness(field.prime, value)
    if closest is None or closest > MAX_CLOSE:
        return False
    polynomial = near_polynomial(field.prime, value, closest)
    return is_unsplit(field.prime, polynomial) and has_left_root(field, leads, part, polynomial, closest)
