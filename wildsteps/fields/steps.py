"""The value of the slope of a top polynomial at its letter."""

from wildsteps.prime.whole import exponent_of


def least_exponent(prime, low_member, factor):
    """The least value of the integers of a low member, each times a factor; None for 0."""
    return min([exponent_of(prime, factor * entry) for entry in low_member if entry != 0], default=None)


def letter_slope(field):
    """The value of the derivative of the top polynomial at r."""
    prime, top, step_size = field.prime, field.top, field.step_size
    values = []
    for count in range(1, step_size + 1):
        exponent = least_exponent(prime, top[count], count)
        if exponent is not None:
            values.append(step_size * exponent + count - 1)
    return min(values)
