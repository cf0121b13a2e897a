"""Self maps of a field, their table and its parts, and the fields within that they leave."""

from wildsteps.checks import is_integer_tuple
from wildsteps.errors import InvalidLot, Refused, TooMany
from wildsteps.fields.fields import check_field
from wildsteps.parts.parts import check_monic, closeness
from wildsteps.roots.balls import roots_by_depth
from wildsteps.roots.leads import do_tell_one_map, found_leads, judged_lead, lead_count
from wildsteps.roots.near import slope_value
from wildsteps.roots.over import whole_over
from wildsteps.roots.roots import MAX_DEPTH
from wildsteps.selfs.fixed import fixed_polynomial, judged_polynomial
from wildsteps.selfs.groups import closed_lots, is_same_both_ways
from wildsteps.selfs.images import are_leads_closed, leaving_maps, table_of


def self_number(field):
    """How many self maps there are."""
    check_field(field)
    return lead_count(field, field)


def self_maps(field):
    """A lead for each self map, in their order."""
    check_field(field)
    return found_leads(field, field)


def are_self_maps(field, value):
    """Whether the value is a tuple of leads, one for each self map, in their order."""
    leads = self_maps(field)
    if not isinstance(value, tuple) or len(value) != len(leads):
        return False
    if not all([judged_lead(field, field, pair) for pair in value]):
        return False
    return all([do_tell_one_map(field, field, one, other) for one, other in zip(leads, value)])


def self_table(field):
    """The indices of first the map j, and then the map i, at the place i, j."""
    check_field(field)
    return table_of(field)


def is_whole(field):
    """Whether the field has as many self maps as its degree."""
    return self_number(field) == field.degree


def is_commuting_field(field):
    """Whether the field is whole, and its table the same in both orders."""
    return is_whole(field) and is_same_both_ways(table_of(field))


def self_parts(field):
    """All parts of the group of self maps, by size and tuple."""
    check_field(field)
    return closed_lots(table_of(field))


def is_lot_of_maps(value, many):
    """Whether the value is an ascending tuple, not empty, of indices of so many maps."""
    if not is_integer_tuple(value) or not 1 <= len(value) <= many:
        return False
    return list(value) == [index for index in range(many) if index in value]


def leads_with_part(field, part):
    """One lead for each self map, refused unless the part is one of their group."""
    leads = found_leads(field, field)
    # In a group with finitely many members, what has all products has the identity, too.
    if not is_lot_of_maps(part, len(leads)) or not are_leads_closed(field, leads, part):
        raise InvalidLot("no part of the group of self maps")
    return leads


def fixed_size(field, part):
    """The degree of the field within that all maps of a part leave."""
    check_field(field)
    leads_with_part(field, part)
    return field.degree // len(part)


def fixed_maps(field, polynomial):
    """The part of all maps that leave the least root of a polynomial with integers."""
    check_field(field)
    check_monic(polynomial)
    value = closeness(field.prime, polynomial)
    if value is None:
        raise Refused(("double",))
    # Over the field each value is that of the integer, times the step size.
    depth = field.step_size * value
    if depth > MAX_DEPTH:
        raise TooMany(MAX_DEPTH)
    numbers = whole_over(field, polynomial)
    roots = roots_by_depth(field, numbers, depth)
    if len(roots) == 0:
        raise Refused(("root",))
    return leaving_maps(field, found_leads(field, field), roots[0], slope_value(field, numbers, roots[0]))


def part_polynomial(field, part):
    """A polynomial with integers for the field within that a part leaves."""
    check_field(field)
    return fixed_polynomial(field, leads_with_part(field, part), part)


def is_part_polynomial(field, part, value):
    """Whether the value is such a polynomial."""
    check_field(field)
    return judged_polynomial(field, leads_with_part(field, part), part, value)
