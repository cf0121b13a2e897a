"""How near self maps come to the one that changes nothing, and the lots of those that come near enough."""

from wildsteps.fields.members import letter_r, letter_t, minus, value_in
from wildsteps.fields.residues import residue_of
from wildsteps.fields.steps import letter_slope
from wildsteps.prime.lines import is_less
from wildsteps.roots.leads import pair_residue
from wildsteps.roots.near import is_value_above


def depth_of_map(field, pair, slope):
    """The depth of the self map of a lead, None if it is endless; the slope is that of the top polynomial at r."""
    if pair_residue(field, pair) != residue_of(field, letter_t(field)):
        return -1
    value = value_in(field, minus(pair[1], letter_r(field)))
    # A lead is nearer to the image of r than the slope: only that of the map that leaves all is so near to r.
    if is_value_above(value, slope):
        return None
    return value - 1


def map_depths(field, leads):
    """The depths of all self maps, told by leads, in their order."""
    slope = letter_slope(field)
    return [depth_of_map(field, pair, slope) for pair in leads]


def lot_from(depths, ratio):
    """The ascending indices of the depths that are at least a ratio, or endless."""
    return tuple([index for index, depth in enumerate(depths) if depth is None or not is_less((depth, 1), ratio)])


def steps_by_depths(depths):
    """The pairs of each depth, ascending, and of how many are at least as great, or endless."""
    levels = sorted(set([depth for depth in depths if depth is not None]))
    return tuple([(level, len(lot_from(depths, (level, 1)))) for level in levels])
