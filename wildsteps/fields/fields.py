"""Fields over the numbers of one prime, told by two polynomials, and their members."""

from wildsteps.checks import check_between, check_integer, check_lengths, check_polynomial
from wildsteps.checks import has_short_integers, is_between, is_integer_tuple
from wildsteps.errors import InvalidField, InvalidMember, InvalidOperation, InvalidPolynomial, TooMany
from wildsteps.fields.members import are_close, entries_of, letter_r, letter_t, minus, nearest, plus
from wildsteps.fields.members import times, times_often, value_in, whole, whole_low, with_low
from wildsteps.fields.near import digit_row
from wildsteps.fields.tables import whole_characteristic, whole_norm, whole_trace
from wildsteps.prime.numbers import MAX_LEVEL, check_level, check_prime
from wildsteps.prime.rests import is_irreducible_modulo, least_low
from wildsteps.prime.whole import whole_power

MAX_FIELD_DEGREE = 6
MAX_RESIDUES = 64
MOST_POWER = 40


def is_low_member(value, size):
    """Whether the value is a low member, with integers of any length."""
    return is_integer_tuple(value) and len(value) == size


def check_low(prime, low):
    """Refuse what is no low polynomial."""
    check_polynomial(low)
    if len(low) < 2 or low[-1] != 1 or not is_irreducible_modulo(prime, low):
        raise InvalidPolynomial("a low polynomial is monic and does not come apart modulo the prime")


def is_top(prime, size, value):
    """Whether the value is a top polynomial over a low one of the size."""
    if not isinstance(value, tuple) or len(value) < 2:
        return False
    if not all([is_low_member(row, size) and has_short_integers(row) for row in value]):
        return False
    if value[-1] != whole_low(size, 1):
        return False
    if any([entry % prime for entry in entries_of(value[:-1])]):
        return False
    return any([entry % (prime * prime) for entry in value[0]])


class Field:
    """A field, told by a prime, a low polynomial with the letter t, and a top one with the letter r."""

    def __init__(self, prime, low, top):
        check_prime(prime)
        check_low(prime, low)
        plain_size = len(low) - 1
        if not is_top(prime, plain_size, top):
            raise InvalidField("no top polynomial over the low one")
        if (len(top) - 1) * plain_size > MAX_FIELD_DEGREE:
            raise TooMany(MAX_FIELD_DEGREE)
        if whole_power(prime, plain_size) > MAX_RESIDUES:
            raise TooMany(MAX_RESIDUES)
        self._prime = prime
        self._low = low
        self._top = top

    @classmethod
    def plain(cls, prime, size):
        """The field with the least low polynomial of the size, and with the top one x - p."""
        check_prime(prime)
        check_between(size, 1, MAX_FIELD_DEGREE)
        return cls(prime, least_low(prime, size), (whole_low(size, -prime), whole_low(size, 1)))

    @classmethod
    def of(cls, prime, polynomial):
        """The field with the low polynomial x, and with a top one of integers."""
        check_prime(prime)
        check_polynomial(polynomial)
        return cls(prime, (0, 1), tuple([(number,) for number in polynomial]))

    @property
    def prime(self):
        """The prime."""
        return self._prime

    @property
    def low(self):
        """The low polynomial."""
        return self._low

    @property
    def top(self):
        """The top polynomial."""
        return self._top

    @property
    def step_size(self):
        """The degree of the top polynomial."""
        return len(self._top) - 1

    @property
    def plain_size(self):
        """The degree of the low polynomial."""
        return len(self._low) - 1

    @property
    def degree(self):
        """The product of both sizes."""
        return (len(self._top) - 1) * (len(self._low) - 1)

    @property
    def residues(self):
        """How many digits there are."""
        return whole_power(self._prime, len(self._low) - 1)

    def __eq__(self, other):
        if not isinstance(other, Field):
            return False
        return self._prime == other._prime and self._low == other._low and self._top == other._top

    def __str__(self):
        return f"field of degree {self.degree} over {self._prime}, {self.step_size} by {self.plain_size}"


def check_field(field):
    """Refuse what is no field."""
    if not isinstance(field, Field):
        raise InvalidField("no field")


def has_member_form(field, value):
    """Whether the value is a member, with integers of any length."""
    if not isinstance(value, tuple) or len(value) != field.step_size:
        return False
    return all([is_low_member(row, field.plain_size) for row in value])


def check_member(field, member):
    """Refuse what is no member of the field with integers of at most sixty digits."""
    if not has_member_form(field, member) or not has_short_integers(entries_of(member)):
        raise InvalidMember("no member of the field")


def is_digit(field, value):
    """Whether the value is a digit of the field."""
    if not is_low_member(value, field.plain_size):
        return False
    return all([is_between(entry, 0, field.prime - 1) for entry in value])


def told_member(member):
    """A result as it is, refused if an integer is too long."""
    check_lengths(entries_of(member))
    return member


def check_pair(field, one, other):
    """Refuse what is no field, and the first one of two that is no member of it."""
    check_field(field)
    check_member(field, one)
    check_member(field, other)


def is_member(field, value):
    """Whether the value is a member of the field, with integers of any length."""
    check_field(field)
    return has_member_form(field, value)


def whole_member(field, number):
    """The member that is an integer."""
    check_field(field)
    check_integer(number)
    return whole(field, number)


def low_letter(field):
    """The letter t as a member."""
    check_field(field)
    return with_low(field, letter_t(field))


def top_letter(field):
    """The letter r as a member."""
    check_field(field)
    return letter_r(field)


def member_sum(field, one, other):
    """The sum of two members."""
    check_pair(field, one, other)
    return told_member(plus(one, other))


def member_difference(field, one, other):
    """The difference of two members."""
    check_pair(field, one, other)
    return told_member(minus(one, other))


def member_product(field, one, other):
    """The product of two members."""
    check_pair(field, one, other)
    return told_member(times(field, one, other))


def member_power(field, member, exponent):
    """The power of a member; the power 0 is 1."""
    check_field(field)
    check_member(field, member)
    check_between(exponent, 0, MOST_POWER)
    return told_member(times_often(field, member, exponent))


def member_value(field, member):
    """The value of a member, None for 0."""
    check_field(field)
    check_member(field, member)
    return value_in(field, member)


def are_near(field, one, other, level):
    """Whether two members are near to the level."""
    check_pair(field, one, other)
    check_level(level)
    return are_close(field, one, other, level)


def near_member(field, member, level):
    """The one member near to this one to the level whose integers are rests."""
    check_field(field)
    check_member(field, member)
    check_level(level)
    return nearest(field, member, level)


def digits_of(field, member, many):
    """The first digits of the row of a member."""
    check_field(field)
    check_member(field, member)
    check_level(many)
    return digit_row(field, member, letter_r(field), many)


def check_digits(field, digits):
    """Refuse what is no tuple of digits of the field."""
    if not isinstance(digits, tuple) or len(digits) > MAX_LEVEL:
        raise InvalidOperation("digits are a tuple of at most 66")
    if not all([is_digit(field, digit) for digit in digits]):
        raise InvalidOperation("digits are tuples of integers from 0 to p - 1")


def member_of_digits(field, digits):
    """The member that is the sum of all digits times powers of r."""
    check_field(field)
    check_digits(field, digits)
    letter = letter_r(field)
    result = whole(field, 0)
    for digit in digits[::-1]:
        result = plus(times(field, result, letter), with_low(field, digit))
    return told_member(result)


def polynomial_of(field, member):
    """The polynomial of the multiplication by a member, with integers of any length."""
    check_field(field)
    check_member(field, member)
    return whole_characteristic(field, member)


def norm_of(field, member):
    """The determinant of the multiplication by a member, of any length."""
    check_field(field)
    check_member(field, member)
    return whole_norm(field, member)


def trace_of(field, member):
    """The sum of the diagonal of the multiplication by a member, of any length."""
    check_field(field)
    check_member(field, member)
    return whole_trace(field, member)
