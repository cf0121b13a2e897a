"""What several test files share: drawn numbers, wrong values, checks of errors."""

import random
from fractions import Fraction

from wildsteps import errors

BIG = 10 ** 60
PRIMES = (2, 3, 5, 7)


def drawer(seed):
    return random.Random(seed)


def ratio_of(fraction):
    return (fraction.numerator, fraction.denominator)


def fraction_of(number):
    return Fraction(*number) if isinstance(number, tuple) else Fraction(number)


def exponent(prime, number):
    """v of a number, None for 0, by the words of the document."""
    number = Fraction(number)
    if number == 0:
        return None
    count = 0
    while (number / prime ** (count + 1)).denominator % prime:
        count += 1
    while number.denominator % prime == 0:
        count -= 1
        number *= prime
    return count


def at_least(value, level):
    """Whether a value, None being endless, is at least a level."""
    return value is None or value >= level


def deep(value, often):
    for _ in range(often):
        value = (value,)
    return value


NOTHING_LIKE_IT = (
    True, False, None, "", "2", "a" * 20000, "\t\n ~", [], [1], [1, 2], {}, {1: 2}, {"a": (1,)},
    deep(1, 8), [[[[[[[[]]]]]]]], (None,), ("1",), ([1],), ({},),
    errors.InvalidNumber(3), errors.WildError("x"),
)


def same(one, other):
    return one is other or (type(one) is type(other) and one == other)


class ErrorCase:
    """Mixed into test cases: what an error must be like."""

    def assert_raises_just(self, kind, function, *args, **more):
        try:
            result = function(*args, **more)
        except Exception as caught:
            if type(caught) is not kind:
                raise AssertionError(f"{function.__name__}{args!r:.300}: {caught!r}, not {kind.__name__}")
            return caught
        raise AssertionError(f"{function.__name__}{args!r:.300} returned {result!r:.100}, not {kind.__name__}")

    def assert_too_many(self, limit, function, *args):
        self.assertEqual(self.assert_raises_just(errors.TooMany, function, *args).limit, limit)

    def assert_refused(self, kind, wrong, function, args):
        caught = self.assert_raises_just(kind, function, *args)
        if kind is errors.InvalidNumber:
            self.assertIs(caught.given, wrong)

    def check_parameters(self, function, good, rules):
        """Each parameter alone, and each pair: the first wrong one of the parameters decides.

        A rule is a pair (kind of error, wrong values), None for a parameter called value.
        """
        result = function(*good)
        self.assertTrue(same(result, function(*good)), function.__name__)
        for place, rule in enumerate(rules):
            if rule is None:
                continue
            kind, wrongs = rule
            for wrong in wrongs:
                args = good[:place] + (wrong,) + good[place + 1:]
                with self.subTest(function=function.__name__, place=place, wrong=repr(wrong)[:80]):
                    self.assert_refused(kind, wrong, function, args)
                self.check_further(function, args, place, rules)

    def check_further(self, function, args, place, rules):
        kind, wrong = rules[place][0], args[place]
        for further in range(place + 1, len(rules)):
            others = (None, deep("x", 3)) if rules[further] is None else rules[further][1][:6]
            for other in others:
                both = args[:further] + (other,) + args[further + 1:]
                with self.subTest(function=function.__name__, places=(place, further), wrong=repr(wrong)[:80]):
                    self.assert_refused(kind, wrong, function, both)

    def check_judge(self, function, args, wrongs):
        """A judge tells False itself for values that are wrong, and raises nothing."""
        for wrong in NOTHING_LIKE_IT + tuple(wrongs):
            with self.subTest(function=function.__name__, args=repr(args)[:80], wrong=repr(wrong)[:80]):
                self.assertIs(function(*args, wrong), False)


WRONG_PRIMES = NOTHING_LIKE_IT + (0, 1, 4, 6, -2, 11, 13, BIG, -BIG, (2,), [2], (2, 1))
WRONG_WHOLES = NOTHING_LIKE_IT + (BIG, -BIG, (1, 1), (2, 3), 10 ** 219)
WRONG_NUMBERS = NOTHING_LIKE_IT + (
    BIG, -BIG, (BIG, 1), (1, BIG), (-BIG, 7), (2, 4), (0, 2), (1, 0), (1, -1), (-1, -2), (True, 2), (1, True),
    (1,), (1, 2, 3), [1, 2], ((1, 2), 3), (1, None), ("1", "2"), (), 10 ** 219, (10 ** 219, 3))
WRONG_LEVELS = NOTHING_LIKE_IT + (-1, 67, BIG, (3,), (3, 1), 10 ** 219)
WRONG_POLYNOMIALS = NOTHING_LIKE_IT + (
    0, 1, (0,), (1, 0), (True,), (1, True), (1, False, 1), (1, None), (1, (2,)), ((1,), (2,)), (BIG,), (-BIG, 1),
    (1, 2, "3"), [1, 2, 3], (1,) * 10, (0,) * 9 + (1,), (0, 0), (10 ** 219, 1), (2, [1]), ((1, 2), 1))
