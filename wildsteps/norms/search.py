"""The field whose norms are a given lot of numbers."""

from wildsteps.fields.fields import Field
from wildsteps.fields.tables import whole_norm
from wildsteps.fields.tops import tame_field, tame_kinds
from wildsteps.norms.makers import first_members, members_of_step, unit_vectors
from wildsteps.norms.places import level_of_powers, place_of
from wildsteps.norms.rows import heads_product, is_made, rows_of
from wildsteps.prime.whole import whole_power
from wildsteps.steps.tops import field_by_index


def are_units_in(prime, level, power, rows):
    """Whether rows for a level make the places of all units that leave 1 modulo p ** power."""
    return all([is_made(rows, vector) for vector in unit_vectors(prime, level, power)])


def are_norms_in(field, members, rows):
    """Whether the places of the norms of members are made by rows."""
    level = level_of_powers(field.prime, field.degree)
    for member in members:
        if not is_made(rows, place_of(field.prime, whole_norm(field, member), level)):
            return False
    return True


def has_norm_rows(field, rows):
    """Whether the norms of a field are the lot of the rows, whose index is the degree of the field."""
    prime, step_size = field.prime, field.step_size
    level = level_of_powers(prime, field.degree)
    if not are_norms_in(field, first_members(field), rows):
        return False
    # The index of the norms is at most the degree, so it is enough that all norms are in the lot.
    power = None
    for step in range(1, step_size * level):
        if are_units_in(prime, level, (step + step_size - 1) // step_size, rows):
            return True
        power, members = members_of_step(field, power, level)
        if not are_norms_in(field, members, rows):
            return False
    return True


def different_of_rows(prime, level, rows):
    """The exponent of the prime in the discriminant of the commuting field whose norms are the lot of the rows."""
    index = heads_product(rows)
    total = 0
    power = 0
    while not are_units_in(prime, level, power, rows):
        # So many maps of the field move nothing in the field that the lot with these units tells.
        joined = rows_of(list(rows) + unit_vectors(prime, level, power), len(rows))
        total = total + index - heads_product(joined)
        power = power + 1
    return total


def wild_field(prime, plain_size, step_size, number, rows):
    """The first field with a step number, among all that tell each kind, whose norms are the lot of the rows."""
    plain = Field.plain(prime, plain_size)
    index = 0
    field = field_by_index(plain, step_size, number, index)
    while not has_norm_rows(field, rows):
        index = index + 1
        field = field_by_index(plain, step_size, number, index)
    return field


def tame_field_of_rows(prime, plain_size, step_size, rows):
    """The tame field whose norms are the lot of the rows."""
    fields = [tame_field(prime, plain_size, step_size, kind) for kind in tame_kinds(prime, plain_size, step_size)]
    return [field for field in fields if has_norm_rows(field, rows)][0]


def field_of_rows(prime, rows):
    """The field whose norms are the lot of the rows; its degree and its residues are few enough."""
    index = heads_product(rows)
    plain_size = rows[0][0]
    step_size = index // plain_size
    if step_size == 1:
        return Field.plain(prime, plain_size)
    if step_size % prime != 0:
        return tame_field_of_rows(prime, plain_size, step_size, rows)
    exponent = different_of_rows(prime, level_of_powers(prime, index), rows) // plain_size
    return wild_field(prime, plain_size, step_size, exponent - step_size + 1, rows)


def residues_of_rows(prime, rows):
    """How many digits the field has."""
    return whole_power(prime, rows[0][0])
