"""Members whose norms, with powers of the prime and units near to 1, make all norms of a field."""

from wildsteps.fields.members import letter_r, nearest, plus, rests_to, times_low, times_r, whole
from wildsteps.fields.members import with_low
from wildsteps.fields.near import near_power, near_product
from wildsteps.fields.residues import first_maker
from wildsteps.fields.tables import whole_norm
from wildsteps.norms.places import level_of_powers, orders_of, place_of
from wildsteps.norms.rows import empty_rows, is_made, reduced, shares_in, with_row
from wildsteps.prime.whole import whole_power


def unit_vectors(prime, level, power):
    """Places whose multiples are those of all units that leave 1 modulo p ** power, 0 standing for all units."""
    orders = orders_of(prime, level)
    if prime == 2:
        if power < 2:
            return [(0, 1, 0), (0, 0, 1)]
        return [(0, 0, min(whole_power(2, power - 2), orders[1]))]
    if power == 0:
        return [(0, 1)]
    return [(0, min(whole_power(prime, power - 1) * (prime - 1), orders[0]))]


def order_vectors(orders):
    """The multiples of the orders that are added to places."""
    found = []
    for place, order in enumerate(orders):
        found.append((0,) * (place + 1) + (order,) + (0,) * (len(orders) - place - 1))
    return found


class NormRows:
    """Rows that make the places of norms, each one with the exponents of the members whose norm is there."""

    def __init__(self, home):
        self.home = home
        self.depth = level_of_powers(home.prime, home.degree)
        self.orders = orders_of(home.prime, self.depth)
        self.width = len(self.orders) + 1
        self.makers = []
        self.rows = empty_rows(self.width, self.width)


def taken(told, vector):
    """Take a vector up that is the place of no member, such as that of a power of p ** n."""
    behind = [0] * len(told.makers)
    told.rows = with_row(told.rows, list(vector) + behind)


def taken_maker(told, member, place):
    """Take a member up, with the place of its norm."""
    told.makers.append(member)
    behind = [0] * (len(told.makers) - 1) + [1]
    told.rows = with_row([list(row) + [0] for row in told.rows], list(place) + behind)


def taken_unit(told, member):
    """Take a unit up, unless its norm is made by what is there."""
    place = place_of(told.home.prime, whole_norm(told.home, member), told.depth)
    if not is_vector_made(told, place):
        taken_maker(told, member, place)


def is_vector_made(told, vector):
    """Whether a vector is made by what is there."""
    return is_made([row[:told.width] for row in told.rows], vector)


def are_units_made(told, power):
    """Whether all units that leave 1 modulo p ** power are norms."""
    return all([is_vector_made(told, vector) for vector in unit_vectors(told.home.prime, told.depth, power)])


def letter_powers(field):
    """The low members t ** 0, t ** 1, .. below the plain size."""
    size = field.plain_size
    return [(0,) * index + (1,) + (0,) * (size - index - 1) for index in range(size)]


def first_members(field):
    """The letter r, and a unit whose residue makes all others."""
    return [letter_r(field), with_low(field, first_maker(field))]


def members_of_step(field, power, level):
    """The next power of r, None standing for none yet, and the members 1 + t ** i times it."""
    modulus = whole_power(field.prime, level)
    power = rests_to(letter_r(field) if power is None else times_r(field, power), modulus)
    one = whole(field, 1)
    return power, [plus(one, times_low(field, power, low_member)) for low_member in letter_powers(field)]


def norm_makers(field):
    """The rows of all norms of a field, with members that make them."""
    told = NormRows(field)
    for vector in order_vectors(told.orders):
        taken(told, vector)
    taken(told, (field.degree,) + (0,) * len(told.orders))
    letter, unit = first_members(field)
    taken_maker(told, letter, place_of(field.prime, whole_norm(field, letter), told.depth))
    taken_unit(told, unit)
    power = None
    for step in range(1, field.step_size * told.depth):
        # A unit less 1 of this value has a norm that leaves 1 modulo this power of the prime.
        if are_units_made(told, (step + field.step_size - 1) // field.step_size):
            break
        power, members = members_of_step(field, power, told.depth)
        for member in members:
            taken_unit(told, member)
    return told


def rows_of_norms(told):
    """The triangular rows of the places of all norms."""
    return tuple([tuple(row) for row in reduced([row[:told.width] for row in told.rows])])


def made_member(told, exponents):
    """The member with these exponents of the makers, but for powers of the prime and units near to 1."""
    field = told.home
    prime, step_size = field.prime, field.step_size
    # The exponent 0 of a unit is as good as any order of its norms.
    most = max(told.orders)
    often, left = divmod(exponents[0], step_size)
    modulus = whole_power(prime, told.depth + 1)
    share = tuple([tuple([0 - entry // prime for entry in row]) for row in field.top[:-1]])
    product = near_power(field, share, often % most, modulus)
    for member, exponent in zip(told.makers[1:], exponents[1:]):
        product = near_product(field, product, near_power(field, member, exponent % most, modulus), modulus)
    product = near_product(field, product, near_power(field, letter_r(field), left, modulus), modulus)
    return nearest(field, product, left + step_size * told.depth)


def member_with_norm(told, number):
    """A member whose norm is the number, but for powers of p ** n and units near to 1, None if there is none."""
    shares, left = shares_in(told.rows, list(place_of(told.home.prime, number, told.depth)) + [0] * len(told.makers))
    if any(left[:told.width]):
        return None
    return made_member(told, [0 - exponent for exponent in left[told.width:]])
