"""Rings of sums of a few members with integers, and greatest ones of them.

A ring is told by the products of its members, in rests modulo a power of the prime.
"""

from wildsteps.parts.linear import combined, kernel_rows, unit_row
from wildsteps.prime.polys import divided
from wildsteps.prime.whole import whole_power


class Order:
    """A ring: its prime, the modulus to which it is told, the table of products, 1, and the root."""

    def __init__(self, base, modulus, table, one, root):
        self.base = base
        self.modulus = modulus
        self.table = table
        self.one = one
        self.root = root


def size_of(order):
    """How many members the sums are made of."""
    return len(order.one)


def product_to(order, one, other, modulus):
    """The product of two members of the ring, in rests."""
    result = [0] * size_of(order)
    for place, number in enumerate(one):
        if number != 0:
            row = combined(other, order.table[place], modulus)
            result = [entry + number * further for entry, further in zip(result, row)]
    return [entry % modulus for entry in result]


def power_to(order, member, exponent, modulus):
    """The power of a member of the ring, in rests."""
    result = order.one
    for _ in range(exponent):
        result = product_to(order, result, member, modulus)
    return result


def padded(numbers, many):
    """The numbers with zeros behind them."""
    return list(numbers) + [0] * (many - len(numbers))


def first_order(prime, polynomial, modulus):
    """The ring of all sums of powers of a root of a monic polynomial."""
    many = len(polynomial) - 1
    powers = []
    for exponent in range(2 * many - 1):
        rest = divided((0,) * exponent + (1,), polynomial)[1]
        powers.append([number % modulus for number in padded(rest, many)])
    table = [powers[place:place + many] for place in range(many)]
    root = [number % modulus for number in padded(divided((0, 1), polynomial)[1], many)]
    return Order(prime, modulus, table, powers[0], root)


def frobenius_rows(order):
    """The p-th powers of the members that the sums are made of, modulo the prime."""
    many = size_of(order)
    return [power_to(order, unit_row(many, place), order.base, order.base) for place in range(many)]


def radical_rows(order):
    """The members whose powers come to 0 modulo the prime, in echelon form, and the pivots."""
    many = size_of(order)
    once = frobenius_rows(order)
    rows = once
    power = order.base
    while power < many:
        rows = [combined(row, once, order.base) for row in rows]
        power = power * order.base
    return kernel_rows(order.base, rows)


def place_in(prime, row, rows, pivots):
    """The numbers that tell a member by rows in echelon form, and by p at the places without pivots."""
    left = list(row)
    found = []
    for further, pivot in zip(rows, pivots):
        share = left[pivot]
        found.append(share)
        left = [entry - share * less for entry, less in zip(left, further)]
    return found + [entry // prime for place, entry in enumerate(left) if place not in pivots]


def wider_rows(order):
    """The members that lead the radical into p times itself, in echelon form, and the pivots."""
    prime, many = order.base, size_of(order)
    rows, pivots = radical_rows(order)
    basis = list(rows)
    for place in range(many):
        if place not in pivots:
            basis.append([prime * entry for entry in unit_row(many, place)])
    images = []
    for index in range(many):
        image = []
        for row in basis:
            told = product_to(order, unit_row(many, index), row, order.modulus)
            image.extend([number % prime for number in place_in(prime, told, rows, pivots)])
        images.append(image)
    return kernel_rows(prime, images)


def moved_row(prime, row, rows, pivots):
    """The numbers of a member by the new members: the rows divided by p, and the old ones elsewhere."""
    result = list(row)
    for further, pivot in zip(rows, pivots):
        share = row[pivot]
        result = [entry - share * less for entry, less in zip(result, further)]
        result[pivot] = prime * share
    return result


def numerators_of(many, rows, pivots):
    """The new members, those that are divided by p before the division."""
    found = [unit_row(many, place) for place in range(many)]
    for row, pivot in zip(rows, pivots):
        found[pivot] = row
    return found


def widened(order, rows, pivots):
    """The ring with the rows, divided by p, in place of the members at their pivots."""
    prime, many = order.base, size_of(order)
    modulus = order.modulus // (prime * prime)
    numerators = numerators_of(many, rows, pivots)
    table = []
    for place, one in enumerate(numerators):
        line = []
        for index, other in enumerate(numerators):
            divisor = whole_power(prime, pivots.count(place) + pivots.count(index))
            told = moved_row(prime, product_to(order, one, other, order.modulus), rows, pivots)
            line.append([entry // divisor % modulus for entry in told])
        table.append(line)
    one = [entry % modulus for entry in moved_row(prime, order.one, rows, pivots)]
    root = [entry % modulus for entry in moved_row(prime, order.root, rows, pivots)]
    return Order(prime, modulus, table, one, root)


def greatest_order(prime, polynomial, modulus):
    """The greatest ring with a root of a monic polynomial, seen from the prime."""
    order = first_order(prime, polynomial, modulus)
    rows, pivots = wider_rows(order)
    while len(pivots) > 0:
        order = widened(order, rows, pivots)
        rows, pivots = wider_rows(order)
    return order
