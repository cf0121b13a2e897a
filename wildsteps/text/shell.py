"""A shell that does what lines tell, over a shelf."""

from wildsteps.errors import InvalidOperation
from wildsteps.house.shelf import Shelf
from wildsteps.text.lines import answered

MAX_LINE = 2000
MOST_LINES = 40


def check_line(line):
    """Refuse what is no string of few printable characters."""
    if not isinstance(line, str) or len(line) > MAX_LINE or not all([" " <= sign <= "~" for sign in line]):
        raise InvalidOperation("a line is a string of at most 2000 printable ASCII characters")


class Shell:
    """A shelf, and how many lines were said to it."""

    def __init__(self, shelf):
        if not isinstance(shelf, Shelf):
            raise InvalidOperation("no shelf")
        self._shelf = shelf
        self._said = 0

    def say(self, line):
        """Do what a line tells; its answer."""
        check_line(line)
        self._said = self._said + 1
        return answered(self._shelf, line)

    def run(self, lines):
        """The answers to lines, one after the other."""
        if not isinstance(lines, tuple) or len(lines) > MOST_LINES:
            raise InvalidOperation("lines are a tuple of at most 40")
        for line in lines:
            check_line(line)
        return tuple([self.say(line) for line in lines])

    @property
    def said(self):
        """How many lines were said."""
        return self._said

    def __str__(self):
        return f"shell, {self._said} lines said"
