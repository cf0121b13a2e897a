"""Pieces of texts: what they are like, what they tell, and how they are written."""

from wildsteps.house.forms import NAME_FIGURES, is_name
from wildsteps.prime.whole import whole_power

CHUNK = 1000


def pieces_at(text):
    """The pairs (index, piece) of all pieces of a text."""
    found = []
    at = 0
    for part in text.split(" "):
        if part != "":
            found.append((at, part))
        at = at + len(part) + 1
    return found


def without_sign(piece):
    """The piece without the sign ahead."""
    return piece[1:] if piece.startswith("-") else piece


def is_integer_piece(piece):
    """Whether a piece is like an integer."""
    digits = without_sign(piece)
    if digits == "" or not all([sign in NAME_FIGURES for sign in digits]):
        return False
    return digits[0] != "0" or piece == "0"


def integer_of_piece(piece):
    """The integer of such a piece, of any length."""
    digits = without_sign(piece)
    total = 0
    # Python reads no very long integers at once.
    for start in range(0, len(digits), CHUNK):
        chunk = digits[start:start + CHUNK]
        total = total * whole_power(10, len(chunk)) + int(chunk)
    return total if digits == piece else 0 - total


def is_row_piece(piece):
    """Whether a piece is integers with commas between."""
    return all([is_integer_piece(part) for part in piece.split(",")])


def row_of_piece(piece):
    """The tuple of these integers."""
    return tuple([integer_of_piece(part) for part in piece.split(",")])


def row_piece(row):
    """The piece of a tuple of integers."""
    return ",".join([str(number) for number in row])


def is_table_piece(piece):
    """Whether a piece is like a tuple of tuples of integers."""
    return all([is_row_piece(part) for part in piece.split("/")])


def table_piece(rows):
    """The piece of a tuple of tuples of integers, none of them empty."""
    return "/".join([row_piece(row) for row in rows])


def polynomial_piece(polynomial):
    """The piece of a polynomial."""
    return "-" if len(polynomial) == 0 else row_piece(polynomial)


def is_like(kind, piece):
    """Whether a piece is like a member of a kind, its integers having any length."""
    if kind == "name":
        return is_name(piece)
    if kind == "polynomial":
        return piece == "-" or is_row_piece(piece)
    if kind in ("top", "member"):
        return is_table_piece(piece)
    return is_integer_piece(piece)


def told_by(kind, piece):
    """What such a piece tells."""
    if kind == "name":
        return piece
    if kind == "polynomial":
        return () if piece == "-" else row_of_piece(piece)
    if kind in ("top", "member"):
        return tuple([row_of_piece(part) for part in piece.split("/")])
    return integer_of_piece(piece)


def piece_of(kind, value):
    """The piece that tells a value of a kind."""
    if kind == "name":
        return value
    if kind == "polynomial":
        return polynomial_piece(value)
    if kind in ("top", "member"):
        return table_piece(value)
    return str(value)


def wrong_spot(text, pieces, kinds):
    """The index of the first piece that is not like its kind, or one too many, the length of the text if one lacks.

    None if all are right.
    """
    for place, (at, piece) in enumerate(pieces):
        if place >= len(kinds) or not is_like(kinds[place], piece):
            return at
    return len(text) if len(pieces) < len(kinds) else None


def told_pieces(kinds, pieces):
    """What pieces of these kinds tell."""
    return tuple([told_by(kind, piece) for kind, piece in zip(kinds, pieces)])
