"""Things with names, and what edits make of them."""

from wildsteps.checks import is_short_polynomial
from wildsteps.errors import InvalidField, InvalidMember, InvalidName, InvalidOperation, InvalidPolynomial, TooMany
from wildsteps.fields.fields import Field
from wildsteps.fields.tops import field_by
from wildsteps.house.forms import is_edit_form, is_name, is_short
from wildsteps.parts.parts import MAX_PARTED, closeness
from wildsteps.prime.polys import added, moved

MOST_NAMED = 8
MOST_DOUBLE = 10
MOST_EDITS = 6
MAKERS = ("field", "polynomial")


def is_field_thing(value):
    """Whether a thing is a field."""
    return isinstance(value, Field)


def is_polynomial_thing(prime, value):
    """Whether the value is a polynomial that can be a thing of the prime."""
    if not is_short_polynomial(value) or not 2 <= len(value) <= MAX_PARTED + 1 or value[-1] != 1:
        return False
    close = closeness(prime, value)
    return close is not None and close <= MOST_DOUBLE


def is_thing(prime, value):
    """Whether the value can be a thing of the prime."""
    if is_field_thing(value):
        return value.prime == prime
    return is_polynomial_thing(prime, value)


def check_things(prime, things):
    """Refuse what are no things of the prime."""
    if not isinstance(things, dict) or len(things) > MOST_NAMED:
        raise InvalidName("things are a dict of at most eight names")
    for name, thing in things.items():
        if not is_name(name) or not is_thing(prime, thing):
            raise InvalidName("no name, or no thing of the prime")


def by_names(things):
    """A copy of the things, with ascending names."""
    return {name: things[name] for name in sorted(list(things))}


def check_edits(edits):
    """Refuse what is no tuple of one to six edits."""
    if not isinstance(edits, tuple) or not 1 <= len(edits) <= MOST_EDITS:
        raise InvalidOperation("edits are a tuple of one to six")
    if not all([is_edit_form(edit) and is_short(edit) for edit in edits]):
        raise InvalidOperation("no edit")


def word_ahead(things, edit):
    """The word with which an edit is refused before anything is made, None if it is not."""
    word, name = edit[0], edit[1]
    if word in MAKERS:
        return "many" if name not in things and len(things) == MOST_NAMED else None
    if name not in things:
        return "unknown"
    if word != "drop" and is_field_thing(things[name]) != (word == "by"):
        return "kind"
    return None


def told_field(prime, low, top):
    """The field with these polynomials, None if there is none."""
    try:
        return Field(prime, low, top)
    except (InvalidPolynomial, InvalidField, TooMany):
        return None


def field_of_member(field, member):
    """The field that a member tells, None if it tells none."""
    try:
        return field_by(field, member)
    except (InvalidMember, InvalidOperation, TooMany):
        return None


def made_by(prime, things, edit):
    """What an edit makes, whether it is a thing or not."""
    word, name = edit[0], edit[1]
    if word == "field":
        return told_field(prime, edit[2], edit[3])
    if word == "polynomial":
        return edit[2]
    if word == "shift":
        return moved(things[name], edit[2])
    if word == "add":
        return added(things[name], edit[2])
    return field_of_member(things[name], edit[2])


def behind_edit(prime, things, edit):
    """The things behind an edit that is not refused, and the word None; or None, and the word of the refusal."""
    word = word_ahead(things, edit)
    if word is not None:
        return None, word
    name = edit[1]
    left = {other: things[other] for other in things if other != name}
    if edit[0] == "drop":
        return left, None
    made = made_by(prime, things, edit)
    if not is_thing(prime, made):
        return None, "thing"
    left[name] = made
    return left, None
