"""Fields that the tests of several stages use, and members drawn in them."""

from wildsteps.fields.fields import Field

A = Field.of(2, (2, 2, 1))
B = Field.of(2, (-2, 2, 1))
C = Field.of(3, (-3, 0, 0, 1))
D = Field.plain(2, 2)

PLAIN = [Field.plain(prime, size) for prime, most in ((2, 6), (3, 3), (5, 2), (7, 2)) for size in range(1, most + 1)]
STEPS = [
    A, B, C,
    Field.of(2, (2, 0, 4, 1)), Field.of(2, (6, 0, -2, 4, 1)), Field.of(2, (-2, 2, 0, 0, 0, 1)),
    Field.of(2, (2, 2, 2, 2, 2, 2, 1)), Field.of(3, (6, -3, 1)), Field.of(3, (-3, 0, 9, 0, 0, 3, 1)),
    Field.of(5, (5, 10, 0, 0, 15, 1)), Field.of(7, (-7, 0, 1)), Field.of(7, (21, 7, -14, 0, 0, 0, 1)),
    Field(2, (3, 1), ((-2,), (4,), (1,))), Field(5, (-12, 1), ((5,), (1,))), Field(7, (7, 1), ((-7,), (0,), (1,))),
]
BOTH = [
    Field(2, (1, 1, 1), ((2, 0), (0, 2), (1, 0))), Field(2, (3, -1, 1), ((2, 4), (2, 2), (1, 0))),
    Field(2, (1, 1, 1), ((0, 2), (0, 0), (2, -6), (1, 0))), Field(3, (1, 0, 1), ((3, 3), (0, 3), (1, 0))),
    Field(3, (-2, 9, 1), ((0, -3), (6, 0), (3, 3), (1, 0))), Field(2, (1, 0, 1, 1), ((2, 0, 2), (4, 2, 0), (1, 0, 0))),
    Field(3, (1, 0, 2, 1), ((3, 0, 0), (-3, 6, 9), (1, 0, 0))), Field(5, (2, 0, 1), ((5, 5), (0, 10), (1, 0))),
    Field(7, (1, 0, 1), ((0, 7), (0, 0), (7, 0), (1, 0))), Field(7, (3, 1, 1), ((7, -7), (1, 0))),
    Field(2, (1, 1, 1), ((4, 2), (1, 0))), Field(2, (1, 1, 0, 0, 1), ((2, 0, 0, 6), (1, 0, 0, 0))),
]
FIELDS = PLAIN + STEPS + BOTH


def drawn_member(draw, field, size=10):
    """A member, some of whose integers are multiples of powers of the prime."""
    rows = [[draw.randint(-size, size) * field.prime ** draw.choice((0, 0, 1, 3)) for _ in range(field.plain_size)]
            for _ in range(field.step_size)]
    return tuple(tuple(row) for row in rows)


def drawn_digit(draw, field):
    return tuple(draw.randint(0, field.prime - 1) for _ in range(field.plain_size))
