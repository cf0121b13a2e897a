"""Lines of steps as slopes with widths, and the rising function that each one makes."""

from math import comb

from wildsteps.fields.members import times_whole, value_in
from wildsteps.fields.steps import least_exponent
from wildsteps.prime.lines import corners_of, is_less, line_between
from wildsteps.steps.ratios import lesser_ratio, ratio_by, ratio_sum, ratio_times


def bent_line(size, values):
    """The slopes and widths of the hull over least heights; the values stand at the place and the count."""
    points = []
    for count in range(1, size + 1):
        heights = []
        for place in range(count, size + 1):
            value = values[place][count]
            if value is not None:
                heights.append(size * value + place - size)
        points.append((count, min(heights)))
    # The hull goes down, so the last piece has the least slope.
    return tuple([((-slope[0], slope[1]), width) for slope, width in line_between(corners_of(points))[::-1]])


def line_of_field(field):
    """The step line of a field."""
    table = []
    for place, number in enumerate(field.top):
        table.append([least_exponent(field.prime, number, comb(place, count)) for count in range(place + 1)])
    return bent_line(field.step_size, table)


def line_over(field, polynomial):
    """The line of a monic polynomial over a field."""
    table = []
    for place, number in enumerate(polynomial):
        table.append([value_in(field, times_whole(number, comb(place, count))) for count in range(place + 1)])
    return bent_line(len(polynomial) - 1, table)


def phi_of(line, size, number):
    """What the rising function of a line makes of a ratio from 0 on."""
    total = number
    for slope, width in line:
        total = ratio_sum(total, ratio_times(lesser_ratio(number, slope), width))
    return ratio_by(total, size)


def psi_of(line, size, number):
    """The ratio of which the rising function of a line makes this one."""
    goal = ratio_times(number, size)
    passed = (0, 1)
    many = size
    # Up to each slope the function rises along one straight piece.
    for slope, width in line:
        if not is_less(ratio_sum(passed, ratio_times(slope, many)), goal):
            break
        passed = ratio_sum(passed, ratio_times(slope, width))
        many = many - width
    return ratio_by(ratio_sum(goal, ratio_times(passed, -1)), many)
