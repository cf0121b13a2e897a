"""Groups told by the table of their products."""

from wildsteps.prime.whole import whole_power


def identity_of(table):
    """The index of the map that changes nothing."""
    rows = [list(row) for row in table]
    return rows.index(list(range(len(table))))


def is_closed(table, members):
    """Whether all products of two of the members are members."""
    return all([table[one][other] in members for one in members for other in members])


def lot_by_mask(many, mask):
    """The ascending indices below a number that the bits of another one tell."""
    return tuple([index for index in range(many) if mask >> index & 1])


def size_and_lot(lot):
    """What lots are ordered by."""
    return (len(lot), lot)


def closed_lots(table):
    """The lots of members with the identity and with all products of theirs, by size and tuple."""
    many = len(table)
    identity = identity_of(table)
    lots = [lot_by_mask(many, mask) for mask in range(whole_power(2, many))]
    return tuple(sorted([lot for lot in lots if identity in lot and is_closed(table, lot)], key=size_and_lot))


def is_same_both_ways(table):
    """Whether the order of two maps never matters."""
    many = len(table)
    return all([table[one][other] == table[other][one] for one in range(many) for other in range(one)])
