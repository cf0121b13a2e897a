"""Finding and judging pairs of members that tell maps from one field into another one."""

from wildsteps.fields.fields import has_member_form
from wildsteps.fields.members import minus, plus, rests_to, times, value_in, whole, whole_low, with_low
from wildsteps.fields.near import lifted_root
from wildsteps.fields.residues import digit_by_index, is_residue_root, residue_of
from wildsteps.fields.steps import letter_slope
from wildsteps.prime.whole import whole_power
from wildsteps.roots.balls import Search, root_member, searched
from wildsteps.roots.near import is_value_above, slope_value
from wildsteps.roots.over import value_over, whole_over
from wildsteps.roots.scales import Scale, lifted_near


def low_image(further, low_member, powers):
    """The sum of the integers of a low member, each times a power of a member of another field."""
    result = whole(further, 0)
    for number, power in zip(low_member, powers):
        result = plus(result, tuple([tuple([number * entry for entry in row]) for row in power]))
    return result


def powers_below(further, member, many):
    """The first powers of a member, from 1 on."""
    powers = [whole(further, 1)]
    for _ in range(many - 1):
        powers.append(times(further, powers[-1], member))
    return powers


def top_image(field, further, letter):
    """The top polynomial of a field with a member of another one in the place of t."""
    powers = powers_below(further, letter, field.plain_size)
    return tuple([low_image(further, low_member, powers) for low_member in field.top])


def low_height(field, further, letter):
    """The value of the low polynomial of a field at a member of another one, None for 0."""
    return value_in(further, value_over(further, whole_over(further, field.low), letter))


def has_pair_form(further, value):
    """Whether the value is a pair of members, with integers of any length."""
    if not isinstance(value, tuple) or len(value) != 2:
        return False
    return has_member_form(further, value[0]) and has_member_form(further, value[1])


def judged_lead(field, further, value):
    """Whether the value is a lead, with integers of any length."""
    if not has_pair_form(further, value):
        return False
    letter, step = value
    polynomial = top_image(field, further, letter)
    slope = slope_value(further, polynomial, step)
    if slope is None or not is_value_above(low_height(field, further, letter), 2 * slope):
        return False
    return is_value_above(value_in(further, value_over(further, polynomial, step)), 2 * slope)


def pair_residue(further, pair):
    """The residue of the image of t."""
    return residue_of(further, pair[0][0])


def pair_slope(field, further, pair):
    """The value of the derivative of the image of the top polynomial, at the image of r."""
    return slope_value(further, top_image(field, further, pair[0]), pair[1])


def do_tell_one_map(field, further, one, other):
    """Whether two leads tell one map."""
    if pair_residue(further, one) != pair_residue(further, other):
        return False
    slope = pair_slope(field, further, one)
    return is_value_above(value_in(further, minus(one[1], other[1])), slope)


def low_residues(field, further):
    """The digits of the further field that are roots of the low polynomial, ascending."""
    if further.plain_size % field.plain_size != 0:
        return []
    if field.plain_size == 1:
        return [residue_of(further, whole_low(further.plain_size, -field.low[0]))]
    digits = [digit_by_index(further, index) for index in range(further.residues)]
    return [digit for digit in digits if is_residue_root(further, field.low, digit)]


def letter_near(field, further, digit, depth):
    """The member near to a digit at which the low polynomial is 0 modulo p ** depth."""
    return with_low(further, lifted_root(further, field.low, digit, depth))


def image_depth(field, further):
    """The depth of the image of the top polynomial in the further field."""
    return further.step_size * letter_slope(field)


def told_letters(field, further):
    """The members near to the images of t, near enough to tell leads and fences, by their residues."""
    depth = 2 * letter_slope(field) + 1
    return [letter_near(field, further, digit, depth) for digit in low_residues(field, further)]


def searched_image(field, further, letter):
    """What is found of the roots of the image of the top polynomial."""
    if field.step_size > 1 and further.step_size % field.step_size != 0:
        return Search()
    scale = Scale(further, 2 * image_depth(field, further) + 4)
    return searched(scale, top_image(field, further, letter))


def roots_of_image(field, further, letter):
    """Near roots of the image of the top polynomial, in the order of the rows of digits of the roots."""
    scale = Scale(further, 2 * image_depth(field, further) + 4)
    found = sorted(searched_image(field, further, letter).found, key=row_of)
    return [root_member(scale, row, value, numbers) for row, value, numbers in found]


def row_of(told):
    """The row of a found root."""
    return told[0]


def found_leads(field, further):
    """One lead for each map, ordered by the first digits of the images of t, then by the digits of those of r."""
    leads = []
    for letter in told_letters(field, further):
        leads.extend([(letter, step) for step in roots_of_image(field, further, letter)])
    return tuple(leads)


def lead_count(field, further):
    """How many maps there are."""
    return sum([len(searched_image(field, further, letter).found) for letter in told_letters(field, further)])


def exact_images(field, further, pair, level):
    """The images of both letters by the map of a lead, near to the level at least."""
    slope = pair_slope(field, further, pair)
    depth = (level + 2 * slope) // further.step_size + 2
    letter = letter_near(field, further, pair_residue(further, pair), depth)
    return letter, lifted_near(further, top_image(field, further, letter), pair[1], slope, level)


def image_near(field, further, images, member, level):
    """What a map makes of a member, near to the level, by near images of both letters."""
    modulus = whole_power(further.prime, level // further.step_size + 1)
    powers = powers_below(further, rests_to(images[0], modulus), field.plain_size)
    step = rests_to(images[1], modulus)
    result = whole(further, 0)
    for low_member in member[::-1]:
        product = plus(times(further, result, step), low_image(further, low_member, powers))
        result = rests_to(product, modulus)
    return result


def has_lead(field, further):
    """Whether there is a map."""
    return any([len(searched_image(field, further, letter).found) > 0 for letter in told_letters(field, further)])
