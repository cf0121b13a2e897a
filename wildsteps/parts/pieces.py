"""A greatest ring as a product of rings that come apart no more, and the sizes of these."""

from wildsteps.parts.linear import combined, inverse_table, kernel_rows, reduced_rows, unit_row
from wildsteps.parts.orders import Order, frobenius_rows, power_to, product_to, radical_rows, size_of


def still_rows(order):
    """The members that are their own p-th powers modulo the prime."""
    many = size_of(order)
    rows = []
    for place, row in enumerate(frobenius_rows(order)):
        rows.append([entry - less for entry, less in zip(row, unit_row(many, place))])
    return kernel_rows(order.base, rows)[0]


def piece_at(order, share, member, rest):
    """The part of a share in which a member that is its own p-th power leaves the rest, modulo the prime."""
    prime = order.base
    moved = [entry - rest * one for entry, one in zip(member, order.one)]
    power = power_to(order, moved, prime - 1, prime)
    return product_to(order, share, [one - entry for one, entry in zip(order.one, power)], prime)


def shares_of(order):
    """The members that are 1 in one of the rings that the ring is made of, and 0 in the others, modulo the prime."""
    shares = [[entry % order.base for entry in order.one]]
    for member in still_rows(order):
        pieces = []
        for share in shares:
            pieces.extend([piece_at(order, share, member, rest) for rest in range(order.base)])
        shares = [piece for piece in pieces if any(piece)]
    return shares


def rank_of(prime, rows):
    """How many of the rows are independent modulo the prime."""
    if len(rows) == 0:
        return 0
    return len(reduced_rows(prime, rows, len(rows[0]))[1])


def piece_sizes(order):
    """The pairs (e, f) of the rings that a greatest ring is made of, in the order of the shares."""
    prime, many = order.base, size_of(order)
    radical = radical_rows(order)[0]
    sizes = []
    for share in shares_of(order):
        degree = rank_of(prime, [product_to(order, share, unit_row(many, place), prime) for place in range(many)])
        plain = degree - rank_of(prime, [product_to(order, share, row, prime) for row in radical])
        sizes.append((degree // plain, plain))
    return sizes


def lifted_share(order, share):
    """The member near to a share whose square it is, modulo the whole modulus."""
    result = share
    square = product_to(order, result, result, order.modulus)
    while square != result:
        cube = product_to(order, square, result, order.modulus)
        result = [(3 * entry - 2 * less) % order.modulus for entry, less in zip(square, cube)]
        square = product_to(order, result, result, order.modulus)
    return result


def independent_rows(prime, rows):
    """Those of the rows that are not combinations of earlier ones modulo the prime."""
    chosen = []
    for row in rows:
        if rank_of(prime, chosen + [row]) > len(chosen):
            chosen.append(row)
    return chosen


def piece_rows(order, share):
    """Members that the ring of a share is made of."""
    many = size_of(order)
    rows = [product_to(order, share, unit_row(many, place), order.modulus) for place in range(many)]
    return independent_rows(order.base, rows)


def piece_of(order, rows, share, start, inverse):
    """The ring that is made of the rows, which begin at the start among the rows of all rings."""
    end = start + len(rows)
    table = []
    for one in rows:
        products = [product_to(order, one, other, order.modulus) for other in rows]
        table.append([combined(row, inverse, order.modulus)[start:end] for row in products])
    root = product_to(order, share, order.root, order.modulus)
    told = [combined(row, inverse, order.modulus)[start:end] for row in (share, root)]
    return Order(order.base, order.modulus, table, told[0], told[1])


def pieces_of(order):
    """The rings that come apart no more, of which a greatest ring is the product."""
    shares = [lifted_share(order, share) for share in shares_of(order)]
    basis = [piece_rows(order, share) for share in shares]
    inverse = inverse_table(order.base, order.modulus, [row for rows in basis for row in rows])
    found = []
    start = 0
    for share, rows in zip(shares, basis):
        found.append(piece_of(order, rows, share, start, inverse))
        start = start + len(rows)
    return found
