"""Told values: nothing, integers, fields, and tuples of told values; their texts."""

from wildsteps.checks import DIGIT_LIMIT, is_short_integer
from wildsteps.errors import InvalidField, InvalidNumber, InvalidPolynomial, ParseError, TooMany
from wildsteps.fields.fields import Field
from wildsteps.text.pieces import is_like, pieces_at, polynomial_piece, table_piece, told_pieces

NOTHING = "none"
FIGURES = "0123456789"
FIELD_KINDS = ("integer", "polynomial", "top")


def is_told(value, deep):
    """Whether the value is a told value, its tuples nested at most so deep."""
    if isinstance(value, tuple):
        return deep > 0 and all([is_told(member, deep - 1) for member in value])
    return value is None or is_short_integer(value) or isinstance(value, Field)


def text_of_field(field):
    """The text of a field."""
    return f"{field.prime} {polynomial_piece(field.low)} {table_piece(field.top)}"


def text_of_told(value):
    """The text of a told value."""
    if value is None:
        return NOTHING
    if isinstance(value, Field):
        return f"[{text_of_field(value)}]"
    if isinstance(value, tuple):
        inner = " ".join([text_of_told(member) for member in value])
        return f"({inner})"
    return str(value)


def field_of_text(text):
    """The field that is written just so, None if there is none."""
    pieces = [piece for _, piece in pieces_at(text)]
    if len(pieces) != len(FIELD_KINDS) or not all([is_like(kind, piece) for kind, piece in zip(FIELD_KINDS, pieces)]):
        return None
    prime, low, top = told_pieces(FIELD_KINDS, pieces)
    try:
        field = Field(prime, low, top)
    except (InvalidNumber, InvalidPolynomial, InvalidField, TooMany):
        return None
    return field if text_of_field(field) == text else None


def check_more(text, at):
    """Refuse a text that ends where it must go on."""
    if at >= len(text):
        raise ParseError(len(text))


def read_nothing(text, at):
    """Nothing, told from an index on, and the index behind it."""
    for index, sign in enumerate(NOTHING):
        check_more(text, at + index)
        if text[at + index] != sign:
            raise ParseError(at + index)
    return None, at + len(NOTHING)


def read_integer(text, at):
    """The integer that is told from an index on, and the index behind it."""
    start = at + 1 if text[at] == "-" else at
    check_more(text, start)
    if text[start] not in FIGURES or (text[start] == "0" and start > at):
        raise ParseError(start)
    end = start + 1
    while text[start] != "0" and end < len(text) and text[end] in FIGURES:
        if end - start == DIGIT_LIMIT:
            raise ParseError(end)
        end = end + 1
    return int(text[at:end]), end


def read_bracketed(text, at):
    """The field that is told behind a bracket at an index, and the index behind it."""
    end = text.find("]", at)
    field = None if end < 0 else field_of_text(text[at + 1:end])
    if field is None:
        raise ParseError(at)
    return field, end + 1


def read_tuple(text, at, deep):
    """The tuple that is told behind a bracket at an index, and the index behind it."""
    if deep == 0:
        raise ParseError(at)
    check_more(text, at + 1)
    if text[at + 1] == ")":
        return (), at + 2
    members = []
    index = at
    while text[index] != ")":
        member, index = read_told(text, index + 1, deep - 1)
        members.append(member)
        check_more(text, index)
        if text[index] not in " )":
            raise ParseError(index)
    return tuple(members), index + 1


def read_told(text, at, deep):
    """The told value from an index on, its tuples nested at most so deep, and the index behind it."""
    check_more(text, at)
    sign = text[at]
    if sign == "n":
        return read_nothing(text, at)
    if sign == "(":
        return read_tuple(text, at, deep)
    if sign == "[":
        return read_bracketed(text, at)
    if sign == "-" or sign in FIGURES:
        return read_integer(text, at)
    raise ParseError(at)
