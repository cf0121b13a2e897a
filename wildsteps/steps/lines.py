"""Step lines of fields, what they make of numbers, and towers of fields."""

from wildsteps.fields.fields import check_field
from wildsteps.steps.bends import line_of_field, line_over, phi_of, psi_of
from wildsteps.steps.ratios import ratio_from
from wildsteps.steps.towers import check_tower, tower_over

MOST_TOWER = 6
MOST_DIGITS = 60


def step_line(field):
    """The slopes and widths of the step line."""
    check_field(field)
    return line_of_field(field)


def phi_at(field, number):
    """What phi makes of a number from 0 on."""
    check_field(field)
    return phi_of(line_of_field(field), field.step_size, ratio_from(number, 0))


def psi_at(field, number):
    """The number of which phi makes this one."""
    check_field(field)
    return psi_of(line_of_field(field), field.step_size, ratio_from(number, 0))


def upper_steps(field):
    """The pairs of phi at a slope and its width."""
    check_field(field)
    line = line_of_field(field)
    return tuple([(phi_of(line, field.step_size, slope), width) for slope, width in line])


def tower_field(field, polynomial):
    """The field over the numbers of the prime that a root of the polynomial makes."""
    check_field(field)
    check_tower(field, polynomial)
    return tower_over(field, polynomial)


def tower_line(field, polynomial):
    """The line of a root of the polynomial over the field."""
    check_field(field)
    check_tower(field, polynomial)
    tower_over(field, polynomial)
    return line_over(field, polynomial)


def joined_phi(field, polynomial, number):
    """Phi of the tower line, and then phi of the field."""
    check_field(field)
    check_tower(field, polynomial)
    ratio = ratio_from(number, 0)
    tower_over(field, polynomial)
    lower = phi_of(line_over(field, polynomial), len(polynomial) - 1, ratio)
    return phi_of(line_of_field(field), field.step_size, lower)
