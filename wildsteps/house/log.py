"""The log of a shelf: a text of lines, and the shelf that it tells."""

from wildsteps.errors import InvalidNumber, InvalidOperation, ParseError, Refused, TooMany, WildError
from wildsteps.fields.fields import Field
from wildsteps.house.forms import EDITS, MEMBERS, QUESTIONS, is_short
from wildsteps.house.shelf import Shelf
from wildsteps.house.things import MAKERS
from wildsteps.text.pieces import integer_of_piece, is_integer_piece, is_like, piece_of, told_pieces

PARTING = "/"


def worded_pieces(told):
    """The pieces of a question or an edit."""
    return [told[0]] + [piece_of(kind, member) for kind, member in zip(MEMBERS[told[0]], told[1:])]


def thing_pieces(name, thing):
    """The pieces of a thing of the first edition."""
    if isinstance(thing, Field):
        return [name, "field", piece_of("polynomial", thing.low), piece_of("top", thing.top)]
    return [name, "polynomial", piece_of("polynomial", thing)]


def first_line(prime, things):
    """The first line of a log."""
    pieces = ["shelf", str(prime)]
    for name, thing in things.items():
        pieces.extend([PARTING] + thing_pieces(name, thing))
    return " ".join(pieces)


def call_line(call):
    """The line of an edit or a pin."""
    word, told = call
    if word == "pin":
        return " ".join(["pin"] + worded_pieces(told))
    return "edit " + " / ".join([" ".join(worded_pieces(edit)) for edit in told])


def log_text(shelf):
    """The log of a shelf."""
    if not isinstance(shelf, Shelf):
        raise InvalidOperation("no shelf")
    lines = [first_line(shelf.shelf_prime, shelf.things_at(1))]
    lines.extend([call_line(call) for call in shelf.history])
    return "".join([f"{line}\n" for line in lines])


def parted(pieces):
    """The groups of pieces between those that part them."""
    groups = [[]]
    for piece in pieces:
        if piece == PARTING:
            groups = groups + [[]]
        else:
            groups[-1].append(piece)
    return groups


def told_words(words, pieces):
    """The question or the edit, with one of the words, that pieces tell, None if they tell none."""
    if len(pieces) == 0 or pieces[0] not in words:
        return None
    kinds = MEMBERS[pieces[0]]
    if len(pieces) != len(kinds) + 1 or not all([is_like(kind, piece) for kind, piece in zip(kinds, pieces[1:])]):
        return None
    return (pieces[0],) + told_pieces(kinds, pieces[1:])


def call_of_line(line):
    """The call that a line tells, None if it tells none."""
    pieces = line.split(" ")
    if pieces[0] == "pin":
        question = told_words(QUESTIONS, pieces[1:])
        return None if question is None else ("pin", question)
    if pieces[0] != "edit":
        return None
    edits = [told_words(EDITS, group) for group in parted(pieces[1:])]
    return None if None in edits else ("edit", tuple(edits))


def thing_of_group(prime, group):
    """The thing that the pieces of a group tell, None if they tell none."""
    if len(group) < 2:
        return None
    told = told_words(MAKERS, [group[1], group[0]] + group[2:])
    if told is None:
        return None
    return Field(prime, told[2], told[3]) if told[0] == "field" else told[2]


def shelf_of_line(line):
    """The shelf that a first line tells, None if it tells none."""
    pieces = line.split(" ")
    if len(pieces) < 2 or pieces[0] != "shelf" or not is_integer_piece(pieces[1]):
        return None
    prime = integer_of_piece(pieces[1])
    groups = parted(pieces[2:])
    things = {}
    for group in groups[1:]:
        things[" ".join(group[:1])] = thing_of_group(prime, group)
    shelf = Shelf(prime, things)
    return shelf if first_line(prime, shelf.things_at(1)) == line else None


def begun_shelf(line):
    """The shelf that a first line tells, refused if it is wrong."""
    try:
        shelf = shelf_of_line(line)
    except (WildError, InvalidNumber, TooMany):
        shelf = None
    if shelf is None:
        raise ParseError(0)
    return shelf


def is_line_done(shelf, line):
    """Do the call that a line tells; whether it tells one that is done."""
    call = call_of_line(line)
    # No call takes longer integers, and Python writes no very long ones.
    if call is None or not is_short(call[1]) or call_line(call) != line:
        return False
    word, told = call
    try:
        if word == "pin":
            shelf.pin(told)
        else:
            shelf.edit(told)
    except (WildError, TooMany, Refused):
        return False
    return True


def read_log(text):
    """The shelf that a log tells, and how many characters its lines have."""
    if not isinstance(text, str):
        raise ParseError(None)
    lines = text.split("\n")[:-1]
    if len(lines) == 0:
        raise ParseError(0)
    shelf = begun_shelf(lines[0])
    for index in range(1, len(lines)):
        if not is_line_done(shelf, lines[index]):
            raise ParseError(index)
    return (shelf, sum([len(line) + 1 for line in lines]))
