"""The forms of names, questions and edits."""

from wildsteps.checks import DEGREE_LIMIT, has_short_integers, is_any_integer, is_integer_tuple

NAME_LETTERS = "abcdefghijklmnopqrstuvwxyz"
NAME_FIGURES = "0123456789"
LONGEST_NAME = 8
MOST_ROW = 6
QUESTIONS = ("unsplit", "root", "lead", "norm")
EDITS = ("field", "polynomial", "drop", "shift", "add", "by")
MEMBERS = {
    "unsplit": ("name",), "root": ("name", "name"), "lead": ("name", "name"), "norm": ("number", "name"),
    "field": ("name", "polynomial", "top"), "polynomial": ("name", "polynomial"), "drop": ("name",),
    "shift": ("name", "integer"), "add": ("name", "polynomial"), "by": ("name", "member"),
}


def is_name(value):
    """Whether the value is a name."""
    if not isinstance(value, str) or not 1 <= len(value) <= LONGEST_NAME or value[0] not in NAME_LETTERS:
        return False
    return all([sign in NAME_LETTERS + NAME_FIGURES for sign in value])


def is_polynomial_form(value):
    """Whether the value is a polynomial of a degree to 8, with integers of any length."""
    if not is_integer_tuple(value) or len(value) > DEGREE_LIMIT + 1:
        return False
    return len(value) == 0 or value[-1] != 0


def is_table_form(value, least, most):
    """Whether the value is a tuple of so many tuples of one to six integers of any length."""
    if not isinstance(value, tuple) or not least <= len(value) <= most:
        return False
    return all([is_integer_tuple(row) and 1 <= len(row) <= MOST_ROW for row in value])


def has_form(kind, value):
    """Whether the value is of a kind of members of questions and edits."""
    if kind == "name":
        return is_name(value)
    if kind == "polynomial":
        return is_polynomial_form(value)
    if kind == "top":
        return is_table_form(value, 2, MOST_ROW + 1)
    if kind == "member":
        return is_table_form(value, 1, MOST_ROW)
    return is_any_integer(value) and (kind == "integer" or value != 0)


def have_forms(kinds, values):
    """Whether there is a value of each kind."""
    return len(kinds) == len(values) and all([has_form(kind, value) for kind, value in zip(kinds, values)])


def is_worded(words, value):
    """Whether the value is a tuple of one of the words and of its members."""
    if not isinstance(value, tuple) or len(value) == 0 or not isinstance(value[0], str) or value[0] not in words:
        return False
    return have_forms(MEMBERS[value[0]], value[1:])


def is_question_form(value):
    """Whether the value is a question by its form, with integers of any length."""
    return is_worded(QUESTIONS, value)


def is_edit_form(value):
    """Whether the value is an edit by its form, with integers of any length."""
    return is_worded(EDITS, value)


def is_short(value):
    """Whether all integers of a value, a tuple of tuples of them or less, have at most sixty digits."""
    if isinstance(value, tuple):
        return all([is_short(member) for member in value])
    return isinstance(value, str) or has_short_integers([value])
