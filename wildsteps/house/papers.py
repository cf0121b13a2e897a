"""Questions about things: their verdicts, and papers that show them."""

from wildsteps.errors import InvalidOperation
from wildsteps.house.forms import is_question_form, is_short
from wildsteps.house.things import is_field_thing
from wildsteps.norms.norms import is_norm_member, is_norm_test, norm_member, norm_test
from wildsteps.parts.parts import are_parts, parts_of
from wildsteps.roots.maps import are_bars, bars, is_lead, lead
from wildsteps.roots.over import whole_over
from wildsteps.roots.roots import is_fence, is_near_root, root_or_fence

# Whether the things of each name of a question are fields.
ARE_FIELDS = {"unsplit": (False,), "root": (False, True), "lead": (True, True), "norm": (True,)}


def names_in(question):
    """The names in a question."""
    return [member for member in question[1:] if isinstance(member, str)]


def is_question_about(things, value):
    """Whether the value is a question about the things."""
    if not is_question_form(value) or not is_short(value):
        return False
    names = names_in(value)
    if not all([name in things for name in names]):
        return False
    return tuple([is_field_thing(things[name]) for name in names]) == ARE_FIELDS[value[0]]


def check_question(things, question):
    """Refuse what is no question about the things."""
    if not is_question_about(things, question):
        raise InvalidOperation("no question about these things")


def things_of(things, question):
    """The things that a question names."""
    return [things[name] for name in names_in(question)]


def decided_lead(one, other):
    """The verdict whether a field leads into another one, and its paper."""
    pair = lead(one, other)
    if pair is None:
        return (False, bars(one, other))
    return (True, pair)


def decided_norm(number, field):
    """The verdict whether a number is a norm, and its paper."""
    member = norm_member(field, number)
    if member is None:
        return (False, norm_test(field, number))
    return (True, member)


def decided(prime, things, question):
    """The verdict of a question about things, and its paper."""
    asked = things_of(things, question)
    if question[0] == "unsplit":
        paper = parts_of(prime, asked[0])
        return (len(paper) == 1, paper)
    if question[0] == "root":
        word, paper = root_or_fence(asked[1], whole_over(asked[1], asked[0]))
        return (word == "root", paper)
    if question[0] == "lead":
        return decided_lead(asked[0], asked[1])
    return decided_norm(question[1], asked[0])


def judged_paper(prime, things, question, verdict, value):
    """Whether the value is a paper for a verdict."""
    asked = things_of(things, question)
    if question[0] == "unsplit":
        return are_parts(prime, asked[0], value) and (len(value) == 1) == verdict
    if question[0] == "root":
        polynomial = whole_over(asked[1], asked[0])
        return is_near_root(asked[1], polynomial, value) if verdict else is_fence(asked[1], polynomial, value)
    if question[0] == "lead":
        return is_lead(asked[0], asked[1], value) if verdict else are_bars(asked[0], asked[1], value)
    number, field = question[1], asked[0]
    return is_norm_member(field, number, value) if verdict else is_norm_test(field, number, value)


def next_standing(prime, things, question, pinned, last):
    """The standing of a claim at an edition with these things, behind its last standing."""
    if not is_question_about(things, question):
        return ("fallen", None, None)
    _, verdict, paper = last
    if verdict == pinned and judged_paper(prime, things, question, pinned, paper):
        return ("stands", pinned, paper)
    verdict, paper = decided(prime, things, question)
    return ("another" if verdict == pinned else "fallen", verdict, paper)
