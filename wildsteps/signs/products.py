"""Products of places that have a sign with a number at some places alone."""

from wildsteps.prime.whole import exponent_of
from wildsteps.signs.primes import is_prime_number, legendre
from wildsteps.signs.symbols import is_square_class, places_of, sign_of


def number_of_place(place):
    """What a place stands for in a product."""
    return -1 if place == 0 else place


def product_of_places(places):
    """The product that a tuple of places tells."""
    product = 1
    for place in places:
        product = product * number_of_place(place)
    return product


def sign_bits(one, other, places):
    """An integer with a bit for each place at which the sign is -1."""
    return sum([1 << index for index, place in enumerate(places) if sign_of(place, one, other) == -1])


def less_bits(rows, bits, chosen):
    """The bits, and what was chosen for them, without the leading bits of the rows."""
    for head, row, places in rows:
        if bits >> head & 1 == 1:
            bits = bits ^ row
            chosen = chosen ^ places
    return bits, chosen


def can_be_chosen(one, place, bad):
    """Whether a place, as a factor, changes signs at the bad places alone."""
    return place in bad or (is_prime_number(place) and legendre(place, one) == 1)


def chosen_places(one, bad, wanted):
    """Places whose product has the wanted signs at the bad places, and the sign 1 at all others."""
    rows = []
    told = []
    place = 0
    left, chosen = wanted, 0
    while left != 0:
        if can_be_chosen(one, place, bad):
            bits, share = less_bits(rows, sign_bits(one, number_of_place(place), bad), 1 << len(told))
            if bits != 0:
                rows.append((bits.bit_length() - 1, bits, share))
                told.append(place)
                left, chosen = less_bits(rows, wanted, 0)
        place = place + 1 if place > 0 else 2
    return [place for index, place in enumerate(told) if chosen >> index & 1 == 1]


def places_with_signs(one, primes, places):
    """An ascending tuple of places that tells a product with the sign -1 at the places alone, None if there is none.

    The primes are those that divide the integer.
    """
    if len(places) % 2 == 1 or any([is_square_class(place, one) for place in places]):
        return None
    bad = places_of([prime for prime in primes if exponent_of(prime, one) % 2 == 1])
    # At a place where the integer is a unit the sign is -1 only if the place divides the product.
    forced = [place for place in places if place not in bad]
    wanted = sum([1 << index for index, place in enumerate(bad) if place in places])
    wanted = wanted ^ sign_bits(one, product_of_places(forced), bad)
    return tuple(sorted(forced + chosen_places(one, bad, wanted)))
