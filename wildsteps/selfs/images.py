"""Self maps of a field, one behind the other, and what they do to members."""

from wildsteps.fields.members import minus, value_in
from wildsteps.fields.residues import residue_of
from wildsteps.fields.steps import letter_slope
from wildsteps.roots.leads import exact_images, found_leads, image_near, pair_residue
from wildsteps.roots.near import is_value_above


def index_of_map(field, leads, residue, step, slope):
    """The index of the map that takes t near to the residue, and r nearer to the step than to the slope."""
    for index, pair in enumerate(leads):
        if pair_residue(field, pair) == residue and is_value_above(value_in(field, minus(pair[1], step)), slope):
            return index
    return None


def map_images(field, leads, level):
    """The images of both letters by each map, near to the level."""
    return [exact_images(field, field, pair, level) for pair in leads]


def map_table(field, leads):
    """The indices of first the map j, and then the map i, at the place i, j."""
    # Each image of the top polynomial has this slope at its roots.
    slope = letter_slope(field)
    images = map_images(field, leads, slope + 1)
    table = []
    for image in images:
        row = []
        for pair in leads:
            letter = image_near(field, field, image, pair[0], slope + 1)
            step = image_near(field, field, image, pair[1], slope + 1)
            row.append(index_of_map(field, leads, residue_of(field, letter[0]), step, slope))
        table.append(tuple(row))
    return tuple(table)


def table_of(field):
    """The table of the self maps of a field."""
    return map_table(field, found_leads(field, field))


def moved_members(field, leads, member, level):
    """What each map makes of a member, near to the level."""
    images = map_images(field, leads, level)
    return [image_near(field, field, image, member, level) for image in images]


def leaving_maps(field, leads, member, slope):
    """The ascending indices of the maps that leave the root of a near root with this slope."""
    moved = moved_members(field, leads, member, slope + 1)
    kept = []
    for index, image in enumerate(moved):
        if is_value_above(value_in(field, minus(image, member)), slope):
            kept.append(index)
    return tuple(kept)
