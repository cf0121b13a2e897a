"""Maps from field to field, told by leads, or bars that show that there are none."""

from wildsteps.checks import has_short_integers
from wildsteps.errors import InvalidMap, InvalidOperation, TooMany
from wildsteps.fields.fields import check_field, check_member, has_member_form
from wildsteps.fields.members import entries_of, nearest
from wildsteps.fields.residues import residue_of
from wildsteps.prime.numbers import check_level
from wildsteps.roots.balls import ALL_ROOTS, leaf_count, leaves_of
from wildsteps.roots.fences import MOST_BALLS, judged_fence
from wildsteps.roots.leads import do_tell_one_map, exact_images, first_lead, found_leads, has_lead, image_near
from wildsteps.roots.leads import image_scale, judged_lead, lead_count, low_height, low_residues, searched_image
from wildsteps.roots.leads import told_letters, top_image
from wildsteps.roots.near import is_value_above


def check_fields(field, further):
    """Refuse what are no two fields of one prime."""
    check_field(field)
    check_field(further)
    if field.prime != further.prime:
        raise InvalidOperation("fields of two primes")


def is_lead(field, further, value):
    """Whether the value is a lead."""
    check_fields(field, further)
    return judged_lead(field, further, value)


def lead(field, further):
    """A lead, None if there is none."""
    check_fields(field, further)
    return first_lead(field, further)


def all_leads(field, further):
    """One lead for each map."""
    check_fields(field, further)
    return found_leads(field, further)


def are_maps_unlike(field, further, leads):
    """Whether no two leads tell one map."""
    pairs = []
    for place, one in enumerate(leads):
        pairs.extend([(one, other) for other in leads[:place]])
    return not any([do_tell_one_map(field, further, one, other) for one, other in pairs])


def are_all_leads(field, further, value):
    """Whether the value is a tuple of leads, one for each map, in any order."""
    check_fields(field, further)
    if not isinstance(value, tuple) or len(value) != lead_count(field, further):
        return False
    if not all([judged_lead(field, further, pair) for pair in value]):
        return False
    return are_maps_unlike(field, further, value)


def does_lead(field, further):
    """Whether there is a lead."""
    check_fields(field, further)
    return has_lead(field, further)


def are_alike(field, further):
    """Whether there is a lead, and both fields have one degree."""
    check_fields(field, further)
    return field.degree == further.degree and has_lead(field, further)


def image_fence(field, scale, letter):
    """The coarsest fence of the image of the top polynomial, that has no root."""
    search = searched_image(field, scale, letter, ALL_ROOTS)
    if leaf_count(scale.home, search) > MOST_BALLS:
        raise TooMany(MOST_BALLS)
    return leaves_of(scale.home, search)


def bars(field, further):
    """Bars, None if there is a lead."""
    check_fields(field, further)
    if has_lead(field, further):
        return None
    scale = image_scale(field, further)
    return tuple([(letter, image_fence(field, scale, letter)) for letter in told_letters(field, further)])


def is_bar(field, further, value):
    """Whether the value is a pair of a member and of a fence that it and all members near enough have."""
    letter, fence = value
    if not judged_fence(further, top_image(field, further, letter), fence):
        return False
    height = low_height(field, further, letter)
    return all([is_value_above(height, pair[1]) for pair in fence])


def has_bar_form(further, value):
    """Whether the value is a pair that begins with a member."""
    return isinstance(value, tuple) and len(value) == 2 and has_member_form(further, value[0])


def are_bars(field, further, value):
    """Whether the value is bars."""
    check_fields(field, further)
    if not isinstance(value, tuple) or not all([has_bar_form(further, pair) for pair in value]):
        return False
    if [residue_of(further, pair[0][0]) for pair in value] != low_residues(field, further):
        return False
    return all([is_bar(field, further, pair) for pair in value])


def check_lead(field, further, pair):
    """Refuse what is no lead with integers of at most sixty digits."""
    if not judged_lead(field, further, pair):
        raise InvalidMap("no lead")
    if not all([has_short_integers(entries_of(member)) for member in pair]):
        raise InvalidMap("integers of more than sixty digits")


def led_member(field, further, pair, member, level):
    """The member of rests near, to the level, to what the map of a lead makes of a member."""
    check_fields(field, further)
    check_lead(field, further, pair)
    check_member(field, member)
    check_level(level)
    images = exact_images(field, further, pair, level)
    return nearest(further, image_near(field, further, images, member, level), level)
