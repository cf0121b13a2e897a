"""Lower and upper lots of the self maps of a whole field."""

from wildsteps.checks import check_between
from wildsteps.errors import InvalidOperation
from wildsteps.fields.fields import check_field
from wildsteps.roots.leads import found_leads
from wildsteps.selfs.selfs import leads_with_part
from wildsteps.steps.bends import line_of_field, phi_of, psi_of
from wildsteps.steps.depths import lot_from, map_depths, steps_by_depths
from wildsteps.steps.ratios import ratio_from

LEAST_LOT = -1


def depths_by_leads(field, leads):
    """The depths of the self maps of a whole field, told by leads; other fields are refused."""
    if len(leads) != field.degree:
        raise InvalidOperation("the field is not whole")
    return map_depths(field, leads)


def whole_depths(field):
    """The depths of the self maps of a whole field; other fields are refused."""
    return depths_by_leads(field, found_leads(field, field))


def map_depth(field, index):
    """The depth of the self map with the index, None if it is endless."""
    check_field(field)
    check_between(index, 0, field.degree - 1)
    return whole_depths(field)[index]


def lower_lot(field, number):
    """The maps whose depth is at least the number, or endless."""
    check_field(field)
    ratio = ratio_from(number, LEAST_LOT)
    return lot_from(whole_depths(field), ratio)


def upper_lot(field, number):
    """The lower lot at psi of the number."""
    check_field(field)
    ratio = ratio_from(number, 0)
    return lot_from(whole_depths(field), psi_of(line_of_field(field), field.step_size, ratio))


def lot_steps(field):
    """The integers at which the lower lot gets lesser, with its sizes."""
    check_field(field)
    return steps_by_depths(whole_depths(field))


def round_size(field):
    """The size of the lower lot at 0, divided by that of the lower lot at 1."""
    check_field(field)
    depths = whole_depths(field)
    return len(lot_from(depths, (0, 1))) // len(lot_from(depths, (1, 1)))


def steps_at_part(field, part):
    """The steps of the field over the field within that a part leaves."""
    check_field(field)
    depths = depths_by_leads(field, leads_with_part(field, part))
    return steps_by_depths([depths[index] for index in part])


def upper_numbers(field):
    """What phi makes of the integers from 0 on at which the lower lot gets lesser."""
    check_field(field)
    line = line_of_field(field)
    steps = steps_by_depths(whole_depths(field))
    return tuple([phi_of(line, field.step_size, (level, 1)) for level, _ in steps if level >= 0])
