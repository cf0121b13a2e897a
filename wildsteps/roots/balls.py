"""Balls of members: which of them are closed, and which hold a root."""

from wildsteps.fields.members import plus, rests_to, times_low, times_r, whole, with_low
from wildsteps.fields.residues import digit_by_index, residue_inverse, residue_of, residue_product
from wildsteps.prime.whole import whole_power
from wildsteps.roots.scales import Scale, lowered, value_to


def residue_sum(field, one, other):
    """The sum of two digits as residues."""
    return residue_of(field, [number + further for number, further in zip(one, other)])


def divided_at(field, rests, digit):
    """The quotient of a polynomial over the residues by x less a digit, and its value there."""
    quotient = []
    result = rests[-1]
    for rest in rests[-2::-1]:
        quotient.append(result)
        result = residue_sum(field, residue_product(field, result, digit), rest)
    return quotient[::-1], result


def linear_root(field, rests):
    """The digit at which a polynomial of degree 1 over the residues is 0."""
    share = residue_inverse(field, rests[1])
    product = residue_product(field, share, rests[0])
    return residue_of(field, [-number for number in product])


def trimmed_rests(rests):
    """The residues without zeros at their end."""
    many = len(rests)
    while many > 0 and not any(rests[many - 1]):
        many = many - 1
    return rests[:many]


def residue_roots(field, rests):
    """The pairs (digit, how often) of the roots of a polynomial over the residues, ascending."""
    found = []
    left = trimmed_rests(rests)
    index = 0
    while len(left) > 1 and index < field.residues:
        if len(left) == 2:
            found.append((linear_root(field, left), 1))
            return found
        digit = digit_by_index(field, index)
        index = index + 1
        count = 0
        quotient, rest = divided_at(field, left, digit)
        while not any(rest):
            left = quotient
            count = count + 1
            quotient, rest = divided_at(field, left, digit)
        if count > 0:
            found.append((digit, count))
    return found


def rests_of(field, numbers):
    """The polynomial over the residues that the numbers leave."""
    return [residue_of(field, number[0]) for number in numbers]


def divided_out(scale, numbers):
    """The least value of the numbers, and all of them divided by a member of this value."""
    least = min([value_to(scale, number) for number in numbers])
    return least, [lowered(scale, number, least) for number in numbers]


def begun(scale, polynomial):
    """The ball of all members: its value, and its numbers."""
    return divided_out(scale, [rests_to(number, scale.modulus) for number in polynomial])


def within_ball(scale, numbers, digit):
    """The part of the ball with one digit more: how much its value is greater, and its numbers."""
    field = scale.home
    many = len(numbers)
    moved = list(numbers)
    if any(digit):
        for start in range(many - 1):
            for place in range(many - 2, start - 1, -1):
                moved[place] = plus(moved[place], times_low(field, moved[place + 1], digit))
    for start in range(1, many):
        for place in range(start, many):
            moved[place] = times_r(field, moved[place])
    return divided_out(scale, [rests_to(number, scale.modulus) for number in moved])


class Search:
    """What is known of all balls: those that are no more looked into, and roots modulo r."""

    def __init__(self):
        self.opened = []
        self.closed = []
        self.found = []


def searched(scale, polynomial):
    """All balls that are not closed, the greatest closed ones in roots modulo r, and all roots that come once.

    An opened ball is told with its value and the digits that are roots; a found root is the row of its first
    digits, with the value and the numbers of the ball before the last digit.
    """
    result = Search()
    value, numbers = begun(scale, polynomial)
    waiting = [((), value, numbers)]
    while len(waiting) > 0:
        ball, value, numbers = waiting.pop()
        roots = residue_roots(scale.home, rests_of(scale.home, numbers))
        if len(roots) == 0:
            result.closed.append((ball, value))
            continue
        result.opened.append((ball, value, [root[0] for root in roots]))
        for digit, count in roots:
            if count == 1:
                result.found.append((ball + (digit,), value, numbers))
            else:
                more, inner = within_ball(scale, numbers, digit)
                waiting.append((ball + (digit,), value + more, inner))
    return result


def member_of_row(field, row):
    """The member with a row of digits, each integer a rest."""
    modulus = whole_power(field.prime, len(row) // field.step_size + 1)
    result = whole(field, 0)
    for digit in row[::-1]:
        result = rests_to(plus(times_r(field, result), with_low(field, digit)), modulus)
    return result


def root_member(scale, row, value, numbers):
    """A near root with these first digits."""
    # The derivative has this value at the root: at the ball it is that of the numbers, less its level.
    slope = value - len(row) + 1
    digits = list(row)
    while len(digits) <= slope:
        _, numbers = within_ball(scale, numbers, digits[-1])
        digits.append(linear_root(scale.home, rests_of(scale.home, numbers)))
    return member_of_row(scale.home, digits)


def roots_by_depth(field, polynomial, depth):
    """The near roots of a polynomial of this depth, in the order of the rows of their digits."""
    scale = Scale(field, 2 * depth + 4)
    found = sorted(searched(scale, polynomial).found, key=first_of)
    return tuple([root_member(scale, row, value, numbers) for row, value, numbers in found])


def first_of(row):
    """The first one of several values."""
    return row[0]


def count_by_depth(field, polynomial, depth):
    """How many roots a polynomial of this depth has."""
    return len(searched(Scale(field, 2 * depth + 4), polynomial).found)


def all_digits(field):
    """All digits, ascending."""
    return [digit_by_index(field, index) for index in range(field.residues)]


def leaf_count(field, search):
    """How many balls the coarsest fence has."""
    return len(search.opened) * (field.residues - 1) + 1


def leaves_of(field, search):
    """The coarsest fence."""
    digits = all_digits(field)
    leaves = list(search.closed)
    for ball, value, roots in search.opened:
        leaves.extend([(ball + (digit,), value) for digit in digits if digit not in roots])
    return tuple(sorted(leaves))
