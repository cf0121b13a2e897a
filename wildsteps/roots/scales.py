"""Members told modulo a power of the prime, and their quotients by powers of r."""

from wildsteps.fields.members import minus, plus, rests_to, times, value_in
from wildsteps.fields.near import by_letter, near_inverse, near_product, prime_by_letter
from wildsteps.prime.whole import whole_power
from wildsteps.roots.over import derived_over


class Scale:
    """A field with a modulus at least as deep as a level, and the quotient of the prime and of r."""

    def __init__(self, home, levels):
        self.home = home
        self.levels = levels
        self.modulus = whole_power(home.prime, levels // home.step_size + 2)
        self.share = prime_by_letter(home, self.modulus)


def lowered(scale, member, value):
    """The quotient of a member of at least this value and of a fixed one that has the value."""
    field = scale.home
    often, left = divmod(value, field.step_size)
    divisor = whole_power(field.prime, often)
    result = tuple([tuple([entry // divisor for entry in row]) for row in member])
    for _ in range(left):
        result = by_letter(field, result, scale.share, scale.modulus)
    return result


def value_to(scale, member):
    """The value of a member told by rests, at most the level to which it is told."""
    value = value_in(scale.home, member)
    if value is None:
        return scale.levels
    return min(value, scale.levels)


def inverse_of(scale, member, value):
    """The inverse of the quotient of a member of this value and of a fixed one that has the value."""
    unit = rests_to(lowered(scale, member, value), scale.modulus)
    return near_inverse(scale.home, unit, scale.modulus)


def quotient_by(scale, member, inverse, value):
    """The quotient of a member of at least this value and of the one with the inverse."""
    return near_product(scale.home, lowered(scale, member, value), inverse, scale.modulus)


def value_near(scale, numbers, member):
    """The value of a polynomial at a member, in rests."""
    result = numbers[-1]
    for number in numbers[-2::-1]:
        result = rests_to(plus(times(scale.home, result, member), number), scale.modulus)
    return result


def lifted_near(field, numbers, member, slope, level):
    """A member near, to the level, to the root of a near root; the slope is the value of the derivative there."""
    scale = Scale(field, level + 2 * slope + 2)
    rests = [rests_to(number, scale.modulus) for number in numbers]
    derivative = derived_over(rests)
    near = rests_to(member, scale.modulus)
    height = value_near(scale, rests, near)
    while value_to(scale, height) < level + slope:
        fall = value_near(scale, derivative, near)
        change = quotient_by(scale, height, inverse_of(scale, fall, slope), slope)
        near = rests_to(minus(near, change), scale.modulus)
        height = value_near(scale, rests, near)
    return near
