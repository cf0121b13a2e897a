"""Texts of polynomials, members, fields and told values, and what texts tell."""

from wildsteps.checks import check_polynomial
from wildsteps.errors import InvalidOperation, ParseError
from wildsteps.fields.fields import Field, check_field, check_member
from wildsteps.text.pieces import pieces_at, polynomial_piece, table_piece, told_pieces, wrong_spot
from wildsteps.text.told import FIELD_KINDS, is_told, read_told, text_of_field, text_of_told

MAX_TEXT = 20000
MOST_DEEP = 8


def check_text(text):
    """Refuse what is no string, or a string that is too long."""
    if not isinstance(text, str) or len(text) > MAX_TEXT:
        raise ParseError(None)


def told_in(text, kinds):
    """What the pieces of a text tell, refused unless they are of these kinds."""
    check_text(text)
    pieces = pieces_at(text)
    spot = wrong_spot(text, pieces, kinds)
    if spot is not None:
        raise ParseError(spot)
    return told_pieces(kinds, [piece for _, piece in pieces])


def write_polynomial(polynomial):
    """The text of a polynomial."""
    check_polynomial(polynomial)
    return polynomial_piece(polynomial)


def write_member(field, member):
    """The text of a member."""
    check_field(field)
    check_member(field, member)
    return table_piece(member)


def write_field(field):
    """The text of a field."""
    check_field(field)
    return text_of_field(field)


def read_polynomial(text):
    """The polynomial that a text tells."""
    polynomial = told_in(text, ("polynomial",))[0]
    check_polynomial(polynomial)
    return polynomial


def read_member(field, text):
    """The member of a field that a text tells."""
    check_field(field)
    member = told_in(text, ("member",))[0]
    check_member(field, member)
    return member


def read_field(text):
    """The field that a text tells."""
    prime, low, top = told_in(text, FIELD_KINDS)
    return Field(prime, low, top)


def write_value(value):
    """The text of a told value."""
    if not is_told(value, MOST_DEEP):
        raise InvalidOperation("no told value")
    return text_of_told(value)


def read_value(text):
    """The told value with just this text."""
    check_text(text)
    value, end = read_told(text, 0, MOST_DEEP)
    if end < len(text):
        raise ParseError(end)
    return value
