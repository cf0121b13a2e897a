"""Lines that are said to a shell: what they are like, and what they do."""

from wildsteps.errors import InvalidNumber, InvalidOperation, NothingToUndo, Refused, TooMany, WildError
from wildsteps.fields.fields import Field
from wildsteps.house.forms import EDITS, MEMBERS, QUESTIONS
from wildsteps.house.shelf import decide
from wildsteps.parts.parts import part_sizes
from wildsteps.steps.lines import step_line
from wildsteps.text.pieces import pieces_at, polynomial_piece, table_piece, told_pieces, wrong_spot
from wildsteps.text.told import text_of_told

ASKING = ("ask", "pin")
FURTHER = {
    "undo": ("integer",), "stand": ("integer",), "show": ("name",), "sizes": ("name",), "steps": ("name",), "names": (),
}


def kinds_behind(words):
    """The kinds of the pieces behind the words of a line."""
    word = words[-1]
    return FURTHER[word] if word in FURTHER else MEMBERS[word]


def wrong_word(line, pieces):
    """How many pieces of a line are its words, and the index of the first wrong one of them, None if all are right."""
    first = pieces[0][1]
    if first not in ASKING:
        return 1, (None if first in EDITS or first in FURTHER else pieces[0][0])
    if len(pieces) == 1:
        return 2, len(line)
    return 2, (None if pieces[1][1] in QUESTIONS else pieces[1][0])


def thing_named(shelf, name):
    """The thing with a name at the last edition."""
    things = shelf.things_at()
    if name not in things:
        raise InvalidOperation("no such name")
    return things[name]


def asked(shelf, question):
    """The verdict of a question, and the text of its paper."""
    verdict, paper = decide(shelf.shelf_prime, shelf.things_at(), question)
    word = "yes" if verdict else "no"
    return f"{word} {text_of_told(paper)}"


def shown(thing):
    """The text of a thing."""
    if isinstance(thing, Field):
        return f"field {polynomial_piece(thing.low)} {table_piece(thing.top)}"
    return f"polynomial {polynomial_piece(thing)}"


def measured(shelf, word, thing):
    """The sizes of the parts of a polynomial, or the step line of a field."""
    return text_of_told(step_line(thing) if word == "steps" else part_sizes(shelf.shelf_prime, thing))


def answer_of(shelf, words, members):
    """Do what the words of a line tell, with the members behind them; the answer."""
    word = words[0]
    if word in EDITS:
        return f"edition {shelf.edit(((word,) + members,))}"
    if word == "ask":
        return asked(shelf, (words[1],) + members)
    if word == "pin":
        return f"claim {shelf.pin((words[1],) + members)}"
    if word == "undo":
        return f"calls {shelf.undo(calls=members[0])}"
    if word == "stand":
        return shelf.standing(members[0])[0]
    if word == "names":
        return " ".join(list(shelf.things_at()))
    thing = thing_named(shelf, members[0])
    return shown(thing) if word == "show" else measured(shelf, word, thing)


def done(shelf, words, members):
    """The answer, also to what is not done."""
    try:
        return answer_of(shelf, words, members)
    except Refused as refusal:
        return f"refused {refusal.reason[-1]}"
    except TooMany as excess:
        return f"too many {excess.limit}"
    except NothingToUndo:
        return "nothing to undo"
    except (WildError, InvalidNumber):
        return "invalid"


def answered(shelf, line):
    """The answer to a line."""
    pieces = pieces_at(line)
    if len(pieces) == 0:
        return ""
    many, spot = wrong_word(line, pieces)
    if spot is None:
        words = [piece for _, piece in pieces[:many]]
        kinds = kinds_behind(words)
        spot = wrong_spot(line, pieces[many:], kinds)
    if spot is not None:
        return f"wrong at {spot}"
    return done(shelf, words, told_pieces(kinds, [piece for _, piece in pieces[many:]]))
