"""Judging fences."""

from wildsteps.checks import is_any_integer
from wildsteps.fields.fields import is_digit
from wildsteps.fields.members import value_in
from wildsteps.prime.whole import whole_power
from wildsteps.roots.balls import begun, residue_roots, rests_of, within_ball
from wildsteps.roots.scales import Scale

MOST_BALLS = 5000
DEEPEST = 67


def is_ball(field, value):
    """Whether the value tells a ball of a level that fences may have."""
    if not isinstance(value, tuple) or len(value) > DEEPEST:
        return False
    return all([is_digit(field, digit) for digit in value])


def is_ball_pair(field, value):
    """Whether the value is a pair of a ball and an integer."""
    if not isinstance(value, tuple) or len(value) != 2:
        return False
    return is_ball(field, value[0]) and is_any_integer(value[1])


def are_ball_pairs(field, value):
    """Whether the value is a tuple of such pairs, as many as fences may have."""
    if not isinstance(value, tuple) or not 1 <= len(value) <= MOST_BALLS:
        return False
    return all([is_ball_pair(field, pair) for pair in value])


def are_apart(one, other):
    """Whether the first ball comes ahead of the other one, and has no member in common with it."""
    return one < other and other[:len(one)] != one


def do_balls_cover(field, balls):
    """Whether ascending balls have no member in common, and all members together."""
    if not all([are_apart(balls[k], balls[k + 1]) for k in range(len(balls) - 1)]):
        return False
    shares = [whole_power(field.residues, DEEPEST - len(ball)) for ball in balls]
    return sum(shares) == whole_power(field.residues, DEEPEST)


def by_next_digit(pairs, level):
    """The pairs by the digit of their balls at a level."""
    groups = {}
    for pair in pairs:
        groups.setdefault(pair[0][level], []).append(pair)
    return groups


def have_value(pairs, value):
    """Whether all pairs have this value."""
    return all([pair[1] == value for pair in pairs])


def are_balls_closed(scale, polynomial, pairs):
    """Whether all balls, that cover all members, are closed with the told values."""
    field = scale.home
    value, numbers = begun(scale, polynomial)
    waiting = [(0, value, numbers, list(pairs))]
    while len(waiting) > 0:
        level, value, numbers, inside = waiting.pop()
        counts = dict(residue_roots(field, rests_of(field, numbers)))
        if len(counts) == 0:
            if not have_value(inside, value):
                return False
            continue
        # A root that comes once stands for a root of the polynomial, so no ball around it is closed.
        if 1 in list(counts.values()) or len(inside[0][0]) == level:
            return False
        for digit, group in by_next_digit(inside, level).items():
            if digit in counts:
                more, inner = within_ball(scale, numbers, digit)
                waiting.append((level + 1, value + more, inner, group))
            elif not have_value(group, value):
                return False
    return True


def judged_fence(field, polynomial, value):
    """Whether the value is a fence of the polynomial, whose integers can have any length."""
    if not are_ball_pairs(field, value):
        return False
    balls = [pair[0] for pair in value]
    if not do_balls_cover(field, balls):
        return False
    deepest = max([len(ball) for ball in balls])
    # At a level k the least value of the numbers is at most that of the last one, k times the degree more.
    levels = value_in(field, polynomial[-1]) + (len(polynomial) - 1) * deepest
    return are_balls_closed(Scale(field, levels + 2), polynomial, value)
