"""Self maps of a field, one behind the other, and what they do to members."""

from wildsteps.fields.members import entries_of, minus, rests_to, times, value_in, whole
from wildsteps.fields.residues import residue_of
from wildsteps.fields.steps import letter_slope
from wildsteps.prime.whole import whole_power
from wildsteps.roots.leads import exact_images, found_leads, image_near
from wildsteps.roots.near import is_value_above


class Maps:
    """The self maps of a field, told by leads, to the least level at which all of them differ."""

    def __init__(self, home, leads):
        self.home = home
        self.leads = leads
        # The image of r by a lead is near to this level to that by its map, and so is that of t.
        self.level = letter_slope(home) + 1
        self.depths = depths_of_level(home, self.level)
        self.modulus = self.depths[0]


def depths_of_level(field, level):
    """The powers of the prime, one for each integer of a member, to which members near to a level have one rest."""
    found = []
    for place in range(field.step_size):
        depth = (level - place + field.step_size - 1) // field.step_size
        found.extend([whole_power(field.prime, max(0, depth))] * field.plain_size)
    return found


def letter_rows(maps, pair):
    """What a map makes of the products of powers of both letters, each as a list of integers."""
    field = maps.home
    letter, step = rests_to(pair[0], maps.modulus), rests_to(pair[1], maps.modulus)
    powers = [whole(field, 1)]
    for _ in range(field.plain_size - 1):
        powers.append(rests_to(times(field, powers[-1], letter), maps.modulus))
    rows = list(powers)
    for _ in range(field.step_size - 1):
        powers = [rests_to(times(field, power, step), maps.modulus) for power in powers]
        rows.extend(powers)
    return [entries_of(row) for row in rows]


def mark_of(maps, letter, step):
    """What tells a map apart from all others: the residue of the image of t, and rests of that of r."""
    rest = [number % depth for number, depth in zip(step, maps.depths)]
    return (residue_of(maps.home, letter), tuple(rest))


def mark_of_lead(maps, pair):
    """What tells the map of a lead."""
    return mark_of(maps, pair[0][0], entries_of(pair[1]))


def mark_behind(maps, rows, pair):
    """What tells the map of a lead and, behind it, the map that makes these rows of the letters."""
    size = maps.home.plain_size
    letter = pair[0][0]
    if size > 1:
        letter = [sum([share * row[k] for share, row in zip(letter, rows)]) for k in range(size)]
    shares = entries_of(pair[1])
    step = [sum([share * row[k] for share, row in zip(shares, rows)]) for k in range(maps.home.degree)]
    return mark_of(maps, letter, step)


def map_table(field, leads):
    """The indices of first the map j, and then the map i, at the place i, j."""
    maps = Maps(field, leads)
    places = {mark_of_lead(maps, pair): index for index, pair in enumerate(leads)}
    table = []
    for pair in leads:
        rows = letter_rows(maps, pair)
        table.append(tuple([places[mark_behind(maps, rows, other)] for other in leads]))
    return tuple(table)


def are_leads_closed(field, leads, part):
    """Whether all products of two of the maps with the indices of the part are such maps."""
    if len(part) == len(leads):
        return True
    maps = Maps(field, leads)
    kept = [leads[index] for index in part]
    places = {mark_of_lead(maps, pair): True for pair in kept}
    for pair in kept:
        rows = letter_rows(maps, pair)
        if not all([mark_behind(maps, rows, other) in places for other in kept]):
            return False
    return True


def table_of(field):
    """The table of the self maps of a field."""
    return map_table(field, found_leads(field, field))


def map_images(field, leads, level):
    """The images of both letters by each map, near to the level."""
    return [exact_images(field, field, pair, level) for pair in leads]


def moved_members(field, leads, member, level):
    """What each map makes of a member, near to the level."""
    images = map_images(field, leads, level)
    return [image_near(field, field, image, member, level) for image in images]


def leaving_maps(field, leads, member, slope):
    """The ascending indices of the maps that leave the root of a near root with this slope."""
    moved = moved_members(field, leads, member, slope + 1)
    kept = []
    for index, image in enumerate(moved):
        if is_value_above(value_in(field, minus(image, member)), slope):
            kept.append(index)
    return tuple(kept)
