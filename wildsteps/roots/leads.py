"""Finding and judging pairs of members that tell maps from one field into another one."""

from wildsteps.fields.fields import has_member_form
from wildsteps.fields.members import letter_t, minus, plus, rests_to, times, times_whole, value_in, whole
from wildsteps.fields.members import whole_low, with_low
from wildsteps.fields.near import lifted_root
from wildsteps.fields.residues import residue_of, residue_power, residue_root
from wildsteps.fields.steps import letter_slope
from wildsteps.prime.whole import whole_power
from wildsteps.roots.balls import ALL_ROOTS, root_member, searched
from wildsteps.roots.near import is_value_above, slope_value
from wildsteps.roots.over import value_over, whole_over
from wildsteps.roots.scales import Scale, lifted_near

# There are at most as many maps as the degree of a field.
MOST_MAPS = 7


def low_image(further, low_member, powers):
    """The sum of the integers of a low member, each times a power of a member of another field."""
    result = whole(further, 0)
    for number, power in zip(low_member, powers):
        if number != 0:
            result = plus(result, times_whole(power, number))
    return result


def powers_below(further, member, many):
    """The first powers of a member, from 1 on."""
    powers = [whole(further, 1)]
    for _ in range(many - 1):
        powers.append(times(further, powers[-1], member))
    return powers


def top_image(field, further, letter):
    """The top polynomial of a field with a member of another one in the place of t."""
    powers = powers_below(further, letter, field.plain_size)
    return tuple([low_image(further, low_member, powers) for low_member in field.top])


def low_height(field, further, letter):
    """The value of the low polynomial of a field at a member of another one, None for 0."""
    return value_in(further, value_over(further, whole_over(further, field.low), letter))


def has_pair_form(further, value):
    """Whether the value is a pair of members, with integers of any length."""
    if not isinstance(value, tuple) or len(value) != 2:
        return False
    return has_member_form(further, value[0]) and has_member_form(further, value[1])


def judged_lead(field, further, value):
    """Whether the value is a lead, with integers of any length."""
    if not has_pair_form(further, value):
        return False
    letter, step = value
    polynomial = top_image(field, further, letter)
    slope = slope_value(further, polynomial, step)
    if slope is None or not is_value_above(low_height(field, further, letter), 2 * slope):
        return False
    return is_value_above(value_in(further, value_over(further, polynomial, step)), 2 * slope)


def pair_residue(further, pair):
    """The residue of the image of t."""
    return residue_of(further, pair[0][0])


def pair_slope(field, further, pair):
    """The value of the derivative of the image of the top polynomial, at the image of r."""
    return slope_value(further, top_image(field, further, pair[0]), pair[1])


def do_tell_one_map(field, further, one, other):
    """Whether two leads tell one map."""
    if pair_residue(further, one) != pair_residue(further, other):
        return False
    slope = pair_slope(field, further, one)
    return is_value_above(value_in(further, minus(one[1], other[1])), slope)


def low_residues(field, further):
    """The digits of the further field that are roots of the low polynomial, ascending."""
    if further.plain_size % field.plain_size != 0:
        return []
    exact = own_letters(field, further)
    first = residue_of(further, exact[0]) if len(exact) > 0 else residue_root(further, field.low)
    # All other roots are made of one by powers.
    digits = [first]
    for _ in range(field.plain_size - 1):
        digits.append(residue_power(further, digits[-1], field.prime))
    return sorted(digits)


def own_letters(field, further):
    """Roots of the low polynomial in another field, as low members, that are told without any search."""
    if field.plain_size == 1:
        return [whole_low(further.plain_size, 0 - field.low[0])]
    if field.low != further.low:
        return []
    letter = letter_t(further)
    # Both roots of a polynomial of degree 2 together are the number at x, with another sign.
    return [letter, (0 - field.low[1], -1)] if field.plain_size == 2 else [letter]


def letter_near(field, further, digit, depth):
    """The member near to a digit at which the low polynomial is 0 modulo p ** depth."""
    for letter in own_letters(field, further):
        if residue_of(further, letter) == digit:
            modulus = whole_power(field.prime, depth)
            return with_low(further, tuple([entry % modulus for entry in letter]))
    return with_low(further, lifted_root(further, field.low, digit, depth))


def image_depth(field, further):
    """The depth of the image of the top polynomial in the further field."""
    return further.step_size * letter_slope(field)


def told_letters(field, further):
    """The members near to the images of t, near enough to tell leads and fences, by their residues."""
    depth = 2 * letter_slope(field) + 1
    return [letter_near(field, further, digit, depth) for digit in low_residues(field, further)]


def do_steps_divide(field, further):
    """Whether the step sizes let a map be."""
    return further.step_size % field.step_size == 0


def image_scale(field, further):
    """A scale deep enough for the search for the roots of the images of the top polynomial."""
    return Scale(further, 2 * image_depth(field, further) + 4)


def searched_image(field, scale, letter, most):
    """What is found of the roots of the image of the top polynomial, until there are so many."""
    return searched(scale, top_image(field, scale.home, letter), most)


def roots_of_image(field, scale, letter):
    """Near roots of the image of the top polynomial, in the order of the rows of digits of the roots."""
    found = sorted(searched_image(field, scale, letter, ALL_ROOTS).found, key=row_of)
    return [root_member(scale, row, value, numbers) for row, value, numbers in found]


def row_of(told):
    """The row of a found root."""
    return told[0]


def found_leads(field, further):
    """One lead for each map, ordered by the first digits of the images of t, then by the digits of those of r."""
    if not do_steps_divide(field, further):
        return ()
    scale = image_scale(field, further)
    leads = []
    for letter in told_letters(field, further):
        leads.extend([(letter, step) for step in roots_of_image(field, scale, letter)])
    return tuple(leads)


def first_lead(field, further):
    """The first one of these leads, None if there is none."""
    if not do_steps_divide(field, further):
        return None
    scale = image_scale(field, further)
    for letter in told_letters(field, further):
        roots = roots_of_image(field, scale, letter)
        if len(roots) > 0:
            return (letter, roots[0])
    return None


def counted_leads(field, further, most):
    """How many maps there are, counted until there are so many at least."""
    if not do_steps_divide(field, further):
        return 0
    scale = image_scale(field, further)
    count = 0
    for letter in told_letters(field, further):
        count = count + len(searched_image(field, scale, letter, most).found)
        if count >= most:
            return count
    return count


def lead_count(field, further):
    """How many maps there are."""
    return counted_leads(field, further, MOST_MAPS)


def exact_images(field, further, pair, level):
    """The images of both letters by the map of a lead, near to the level at least."""
    slope = letter_slope(field) * (further.step_size // field.step_size)
    if level <= slope + 1:
        return pair
    depth = (level + 2 * slope) // further.step_size + 2
    letter = letter_near(field, further, pair_residue(further, pair), depth)
    return letter, lifted_near(further, top_image(field, further, letter), pair[1], slope, level)


def image_near(field, further, images, member, level):
    """What a map makes of a member, near to the level, by near images of both letters."""
    modulus = whole_power(further.prime, level // further.step_size + 1)
    powers = powers_below(further, rests_to(images[0], modulus), field.plain_size)
    step = rests_to(images[1], modulus)
    result = whole(further, 0)
    for low_member in member[::-1]:
        product = plus(times(further, result, step), low_image(further, low_member, powers))
        result = rests_to(product, modulus)
    return result


def has_lead(field, further):
    """Whether there is a map."""
    return counted_leads(field, further, 1) > 0
