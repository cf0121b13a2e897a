"""Numbers of steps that occur, and how many fields have them, in one closure."""

from wildsteps.checks import is_any_integer
from wildsteps.prime.whole import exponent_of, whole_power


def steps_that_occur(prime, step_size):
    """The step numbers of fields with the step size, ascending."""
    most = step_size * exponent_of(prime, step_size)
    found = []
    for number in range(most):
        rest = number % step_size
        if rest != 0 and min(step_size * exponent_of(prime, rest), most) <= number:
            found.append(number)
    return tuple(found + [most])


def does_step_occur(prime, step_size, value):
    """Whether the value is one of these numbers."""
    return is_any_integer(value) and value in steps_that_occur(prime, step_size)


def count_in_closure(prime, plain_size, step_size, number):
    """How many fields over one plain part have the step size and the step number."""
    often, rest = divmod(number, step_size)
    residues = whole_power(prime, plain_size)
    exponent = sum([step_size // whole_power(prime, place) for place in range(1, often + 1)])
    if rest == 0:
        return step_size * whole_power(residues, exponent)
    further = (rest - 1) // whole_power(prime, often + 1)
    return step_size * (residues - 1) * whole_power(residues, exponent + further)


def counts_by_step(prime, plain_size, step_size):
    """How many fields over one plain part have each step number."""
    counts = {}
    for number in steps_that_occur(prime, step_size):
        counts[number] = count_in_closure(prime, plain_size, step_size, number)
    return counts


def divisors_of(number):
    """The integers from 1 on that divide a number."""
    return [divisor for divisor in range(1, number + 1) if number % divisor == 0]
