"""Reckoning with low members and members that are known to be such, exact and without limits.

A field is passed as it is; nothing here checks it or the members.
"""

from wildsteps.prime.whole import exponent_of, whole_power


def whole_low(size, number):
    """The low member that is an integer."""
    return (number,) + (0,) * (size - 1)


def low_sum(one, other):
    """The sum of two low members."""
    return tuple([number + further for number, further in zip(one, other)])


def less_heads(row, polynomial):
    """The polynomial with the numbers of the row, modulo a monic one: as many numbers as its degree."""
    size = len(polynomial) - 1
    left = row
    for place in range(len(row) - 1, size - 1, -1):
        head = left[place]
        if head != 0:
            start = place - size
            for further in range(size):
                left[start + further] -= head * polynomial[further]
    return tuple(left[:size])


def row_product(one, other):
    """The numbers of the product of two polynomials, in a new list."""
    row = [0] * (len(one) + len(other) - 1)
    for place, number in enumerate(one):
        if number != 0:
            for further, factor in enumerate(other):
                row[place + further] += number * factor
    return row


def low_product(low, one, other):
    """The product of two low members, modulo the monic low polynomial."""
    if len(low) == 2:
        return (one[0] * other[0],)
    if len(low) == 3:
        # So few integers are faster taken by name.
        head = one[1] * other[1]
        return (one[0] * other[0] - low[0] * head, one[0] * other[1] + one[1] * other[0] - low[1] * head)
    return less_heads(row_product(one, other), low)


def low_product_modulo(low, one, other, modulus):
    """The product of two low members, each integer a rest."""
    return tuple([number % modulus for number in low_product(low, one, other)])


def low_power_modulo(low, base, exponent, modulus):
    """The power of a low member, each integer a rest."""
    result = tuple([number % modulus for number in whole_low(len(low) - 1, 1)])
    square = base
    left = exponent
    while left > 0:
        if left & 1:
            result = low_product_modulo(low, result, square, modulus)
        left = left >> 1
        if left > 0:
            square = low_product_modulo(low, square, square, modulus)
    return result


def with_low(field, low_member):
    """The member that is a low member."""
    rest = (0,) * field.plain_size
    return (low_member,) + (rest,) * (field.step_size - 1)


def whole(field, number):
    """The member that is an integer."""
    return with_low(field, whole_low(field.plain_size, number))


def plus(one, other):
    """The sum of two members."""
    return tuple([tuple([a + b for a, b in zip(row, further)]) for row, further in zip(one, other)])


def times_whole(member, number):
    """The member times an integer."""
    return tuple([tuple([number * entry for entry in row]) for row in member])


def minus(one, other):
    """The difference of two members."""
    return tuple([tuple([a - b for a, b in zip(row, further)]) for row, further in zip(one, other)])


def times_low(field, member, low_member):
    """The member times a low member."""
    low = field.low
    return tuple([low_product(low, row, low_member) for row in member])


def less_multiple(rows, place, low, top):
    """Take the low member at the place of the rows times a power of r and the top polynomial away."""
    head = rows[place]
    if any(head):
        start = place - len(top) + 1
        for further in range(len(top) - 1):
            product = low_product(low, head, top[further])
            rows[start + further] = tuple([a - b for a, b in zip(rows[start + further], product)])


def times_r(field, member):
    """The member times r."""
    low, top = field.low, field.top
    rows = [(0,) * (len(low) - 1)] + list(member)
    less_multiple(rows, len(member), low, top)
    return tuple(rows[:-1])


def rows_product(size, one, other):
    """The product of two members as rows of integers, without any replacement, in a new list."""
    rows = [[0] * (2 * size - 1) for _ in range(2 * len(one) - 1)]
    for place, number in enumerate(one):
        for further, factor in enumerate(other):
            row = rows[place + further]
            for index, entry in enumerate(number):
                if entry != 0:
                    for behind, share in enumerate(factor):
                        row[index + behind] += entry * share
    return rows


def times(field, one, other):
    """The product of two members, modulo the monic top polynomial."""
    low, top = field.low, field.top
    step_size = len(top) - 1
    if step_size == 1:
        return (low_product(low, one[0], other[0]),)
    if len(low) == 2:
        # Here low members are plain integers, which spares most of the work.
        row = row_product([entry[0] for entry in one], [entry[0] for entry in other])
        return tuple([(entry,) for entry in less_heads(row, [entry[0] for entry in top])])
    rows = [less_heads(row, low) for row in rows_product(len(low) - 1, one, other)]
    for place in range(2 * step_size - 2, step_size - 1, -1):
        less_multiple(rows, place, low, top)
    return tuple(rows[:step_size])


def times_often(field, member, exponent):
    """The power of a member."""
    result = whole(field, 1)
    for _ in range(exponent):
        result = times(field, result, member)
    return result


def value_in(field, member):
    """The value of a member, None for 0."""
    prime, step_size = field.prime, field.step_size
    least = None
    for place, row in enumerate(member):
        for entry in row:
            if entry != 0:
                value = step_size * exponent_of(prime, entry) + place
                if least is None or value < least:
                    least = value
    return least


def rests_to(member, modulus):
    """The member with each integer a rest."""
    return tuple([tuple([entry % modulus for entry in row]) for row in member])


def plain_depth(field, level):
    """The least integer k for which p ** k has a value of at least the level."""
    return (level + field.step_size - 1) // field.step_size


def nearest(field, member, level):
    """The only member near to this one to the level whose integers are rests."""
    rows = []
    for place, row in enumerate(member):
        # As the value at r ** j is e k + j, later rows need fewer powers of the prime.
        depth = (level - place + field.step_size - 1) // field.step_size
        modulus = whole_power(field.prime, depth)
        rows.append(tuple([entry % modulus for entry in row]))
    return tuple(rows)


def are_close(field, one, other, level):
    """Whether two members are near to the level."""
    return nearest(field, one, level) == nearest(field, other, level)


def letter_t(field):
    """The letter t as a low member."""
    if field.plain_size == 1:
        return (-field.low[0],)
    return (0, 1) + (0,) * (field.plain_size - 2)


def letter_r(field):
    """The letter r as a member."""
    if field.step_size == 1:
        return times_whole((field.top[0],), -1)
    empty = (0,) * field.plain_size
    return (empty, whole_low(field.plain_size, 1)) + (empty,) * (field.step_size - 2)


def letter_member(field, place, index):
    """The product of r to the place and of t to the index, both below the sizes."""
    rows = [[0] * field.plain_size for _ in range(field.step_size)]
    rows[place][index] = 1
    return tuple([tuple(row) for row in rows])


def letter_members(field):
    """The products of powers of both letters, from 1 on."""
    found = []
    for place in range(field.step_size):
        found.extend([letter_member(field, place, index) for index in range(field.plain_size)])
    return found


def entries_of(member):
    """All integers of a member in one list."""
    return [entry for row in member for entry in row]
