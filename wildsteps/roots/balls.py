"""Balls of members: which of them are closed, and which hold a root."""

from wildsteps.fields.members import low_product, plus, rests_to, times_low, times_r, whole, whole_low, with_low
from wildsteps.fields.near import times_letters
from wildsteps.fields.residues import digit_by_index, residue_inverse, residue_of, residue_product
from wildsteps.prime.whole import whole_power
from wildsteps.roots.scales import Scale, lowered, value_to

# No polynomial of the package has more roots than this.
ALL_ROOTS = 7


def divided_at(field, rests, digit):
    """The quotient of a polynomial over the residues by x less a digit, and its value there."""
    low, prime = field.low, field.prime
    quotient = []
    result = rests[-1]
    for rest in rests[-2::-1]:
        quotient.append(result)
        share = low_product(low, result, digit)
        result = tuple([(number + further) % prime for number, further in zip(share, rest)])
    return quotient[::-1], result


def linear_root(field, rests):
    """The digit at which a polynomial of degree 1 over the residues is 0."""
    share = residue_inverse(field, rests[1])
    product = residue_product(field, share, rests[0])
    return residue_of(field, [-number for number in product])


def trimmed_rests(rests):
    """The residues without zeros at their end."""
    many = len(rests)
    while many > 0 and not any(rests[many - 1]):
        many = many - 1
    return rests[:many]


def residue_roots(field, rests):
    """The pairs (digit, how often) of the roots of a polynomial over the residues, ascending."""
    found = []
    left = trimmed_rests(rests)
    index = 0
    while len(left) > 1 and index < field.residues:
        if len(left) == 2:
            found.append((linear_root(field, left), 1))
            return found
        digit = digit_by_index(field, index)
        index = index + 1
        count = 0
        quotient, rest = divided_at(field, left, digit)
        while not any(rest):
            left = quotient
            count = count + 1
            quotient, rest = divided_at(field, left, digit)
        if count > 0:
            found.append((digit, count))
    return found


def rests_of(field, numbers):
    """The polynomial over the residues that the numbers leave."""
    return [residue_of(field, number[0]) for number in numbers]


def divided_out(scale, numbers):
    """The least value of the numbers, and all of them divided by a member of this value."""
    least = min([value_to(scale, number) for number in numbers])
    if least == 0:
        return 0, numbers
    return least, [lowered(scale, number, least) for number in numbers]


def begun(scale, polynomial):
    """The ball of all members: its value, and its numbers."""
    return divided_out(scale, [rests_to(number, scale.modulus) for number in polynomial])


def within_ball(scale, numbers, digit):
    """The part of the ball with one digit more: how much its value is greater, and its numbers."""
    field = scale.home
    many = len(numbers)
    moved = list(numbers)
    if any(digit):
        for start in range(many - 1):
            for place in range(many - 2, start - 1, -1):
                moved[place] = plus(moved[place], times_low(field, moved[place + 1], digit))
    for start in range(1, many):
        for place in range(start, many):
            moved[place] = times_r(field, moved[place])
    return divided_out(scale, [rests_to(number, scale.modulus) for number in moved])


class Search:
    """What is known of all balls: those that are no more looked into, and roots modulo r."""

    def __init__(self):
        self.opened = []
        self.closed = []
        self.found = []


def lone_place(rests):
    """The only place at which a polynomial over the residues is not 0, None if there are several."""
    places = [place for place, rest in enumerate(rests) if any(rest)]
    return places[0] if len(places) == 1 else None


def behind_zeros(scale, search, told, place):
    """The ball behind as many digits 0 as are alike: within each of these balls 0 is the only root, so often.

    The numbers leave residues at this place alone.
    """
    field = scale.home
    ball, value, numbers = told
    heights = [value_to(scale, number) for number in numbers[:place]]
    # So often the number at the place keeps the least value.
    often = max(1, min([height // (place - index) for index, height in enumerate(heights)]))
    digit = whole_low(field.plain_size, 0)
    for count in range(often):
        search.opened.append((ball + (digit,) * count, value + count * place, [digit]))
    moved = [times_letters(field, number, often * index, scale.modulus) for index, number in enumerate(numbers)]
    more, inner = divided_out(scale, moved)
    return ball + (digit,) * often, value + more, inner


def balls_within(scale, search, told, rests):
    """The parts of a ball that are not closed and hold no root that comes once; what else there is, is kept."""
    ball, value, numbers = told
    roots = residue_roots(scale.home, rests)
    if len(roots) == 0:
        search.closed.append((ball, value))
        return []
    search.opened.append((ball, value, [root[0] for root in roots]))
    waiting = []
    for digit, count in roots:
        if count == 1:
            search.found.append((ball + (digit,), value, numbers))
        else:
            more, inner = within_ball(scale, numbers, digit)
            waiting.append((ball + (digit,), value + more, inner))
    return waiting


def searched(scale, polynomial, most):
    """All balls that are not closed, the greatest closed ones in roots modulo r, and all roots that come once.

    An opened ball is told with its value and the digits that are roots; a found root is the row of its first
    digits, with the value and the numbers of the ball before the last digit. With so many roots the search ends.
    """
    search = Search()
    value, numbers = begun(scale, polynomial)
    waiting = [((), value, numbers)]
    while len(waiting) > 0 and len(search.found) < most:
        told = waiting.pop()
        rests = rests_of(scale.home, told[2])
        place = lone_place(rests)
        if place is not None and place > 1:
            waiting.append(behind_zeros(scale, search, told, place))
        else:
            waiting.extend(balls_within(scale, search, told, rests))
    return search


def member_of_row(field, row):
    """The member with a row of digits, each integer a rest."""
    modulus = whole_power(field.prime, len(row) // field.step_size + 1)
    result = whole(field, 0)
    waiting = 0
    for digit in row[::-1]:
        waiting = waiting + 1
        if any(digit):
            # All digits 0 since the last other one are taken at once.
            result = plus(times_letters(field, result, waiting, modulus), with_low(field, digit))
            waiting = 0
    return times_letters(field, result, waiting, modulus)


def root_member(scale, row, value, numbers):
    """A near root with these first digits."""
    # The derivative has this value at the root: at the ball it is that of the numbers, less its level.
    slope = value - len(row) + 1
    digits = list(row)
    while len(digits) <= slope:
        _, numbers = within_ball(scale, numbers, digits[-1])
        digits.append(linear_root(scale.home, rests_of(scale.home, numbers)))
    return member_of_row(scale.home, digits)


def scale_by_depth(field, depth):
    """A scale deep enough for the search for the roots of a polynomial of this depth."""
    return Scale(field, 2 * depth + 4)


def root_by_depth(field, polynomial, depth):
    """A near root of a polynomial of this depth, None if there is none."""
    scale = scale_by_depth(field, depth)
    search = searched(scale, polynomial, 1)
    if len(search.found) == 0:
        return None
    row, value, numbers = search.found[0]
    return root_member(scale, row, value, numbers)


def roots_by_depth(field, polynomial, depth):
    """The near roots of a polynomial of this depth, in the order of the rows of their digits."""
    scale = scale_by_depth(field, depth)
    found = sorted(searched(scale, polynomial, ALL_ROOTS).found, key=first_of)
    return tuple([root_member(scale, row, value, numbers) for row, value, numbers in found])


def first_of(row):
    """The first one of several values."""
    return row[0]


def count_by_depth(field, polynomial, depth):
    """How many roots a polynomial of this depth has."""
    return len(searched(scale_by_depth(field, depth), polynomial, ALL_ROOTS).found)


def all_digits(field):
    """All digits, ascending."""
    return [digit_by_index(field, index) for index in range(field.residues)]


def leaf_count(field, search):
    """How many balls the coarsest fence has."""
    return len(search.opened) * (field.residues - 1) + 1


def leaves_of(field, search):
    """The coarsest fence."""
    digits = all_digits(field)
    leaves = list(search.closed)
    for ball, value, roots in search.opened:
        leaves.extend([(ball + (digit,), value) for digit in digits if digit not in roots])
    return tuple(sorted(leaves))
