"""A shelf of things with editions, and claims about them."""

from wildsteps.checks import check_between, is_short_integer
from wildsteps.errors import InvalidNumber, InvalidOperation, NothingToUndo, Refused, TooMany
from wildsteps.house.forms import is_edit_form, is_question_form
from wildsteps.house.papers import check_question, decided, judged_paper, next_standing
from wildsteps.house.things import behind_edit, by_names, check_edits, check_things
from wildsteps.prime.numbers import check_prime

MAX_NAMED = 8
MAX_CLAIMS = 12
MAX_EDITIONS = 30
MAX_EDITS = 6
MAX_DOUBLE = 10


def is_question(value):
    """Whether the value is a question by its form."""
    return is_question_form(value)


def decide(prime, things, question):
    """The pair of the verdict of a question and its paper."""
    check_prime(prime)
    check_things(prime, things)
    check_question(things, question)
    return decided(prime, things, question)


def is_paper(prime, things, question, verdict, value):
    """Whether the value is a paper for a verdict."""
    check_prime(prime)
    check_things(prime, things)
    check_question(things, question)
    if not isinstance(verdict, bool):
        raise InvalidOperation("a verdict is a boolean")
    return judged_paper(prime, things, question, verdict, value)


def is_edit(value):
    """Whether the value is an edit by its form."""
    return is_edit_form(value)


def edited(prime, things, edits):
    """The things behind edits, done one after the other."""
    check_prime(prime)
    check_things(prime, things)
    check_edits(edits)
    made = things
    for index, edit in enumerate(edits):
        made, word = behind_edit(prime, made, edit)
        if word is not None:
            raise Refused(("edit", index, word))
    return by_names(made)


class Shelf:
    """Editions of things, and claims: questions that were pinned at an edition, with their verdicts."""

    def __init__(self, prime, things=None):
        check_prime(prime)
        first = {} if things is None else things
        check_things(prime, first)
        self._prime = prime
        self._books = [by_names(first)]
        self._pinned = []
        self._trails = []
        self._done = []

    def edit(self, edits):
        """A further edition, the last one behind edits; its number."""
        things = edited(self._prime, self._books[-1], edits)
        if len(self._books) == MAX_EDITIONS:
            raise TooMany(MAX_EDITIONS)
        further = []
        for claim, trail in zip(self._pinned, self._trails):
            further.append(next_standing(self._prime, things, claim[0], claim[1], trail[-1]))
        self._books.append(things)
        for trail, standing in zip(self._trails, further):
            trail.append(standing)
        self._done.append(("edit", edits))
        return len(self._books)

    def pin(self, question):
        """A claim at the last edition; its number."""
        things = self._books[-1]
        check_question(things, question)
        if len(self._pinned) == MAX_CLAIMS:
            raise TooMany(MAX_CLAIMS)
        verdict, paper = decided(self._prime, things, question)
        self._pinned.append((question, verdict, len(self._books)))
        self._trails.append([("stands", verdict, paper)])
        self._done.append(("pin", question))
        return len(self._pinned)

    def undo(self, *, calls=1):
        """Take the last edits and pins back, so many together; how many calls stand."""
        if not is_short_integer(calls) or calls < 1:
            raise InvalidNumber(calls)
        if calls > len(self._done):
            raise NothingToUndo(calls)
        for _ in range(calls):
            word, _ = self._done.pop()
            if word == "pin":
                self._pinned.pop()
                self._trails.pop()
            else:
                self._books.pop()
                for trail in self._trails:
                    trail.pop()
        return len(self._done)

    def things_at(self, edition=None):
        """The things of an edition, the last one for None."""
        if edition is None:
            return dict(self._books[-1])
        check_between(edition, 1, len(self._books))
        return dict(self._books[edition - 1])

    def standing(self, number, edition=None):
        """The word, the verdict and the paper of a claim at an edition, the last one for None."""
        check_between(number, 1, len(self._pinned))
        trail = self._trails[number - 1]
        if edition is None:
            return trail[-1]
        first = self._pinned[number - 1][2]
        check_between(edition, first, len(self._books))
        return trail[edition - first]

    @property
    def shelf_prime(self):
        """The prime."""
        return self._prime

    @property
    def editions(self):
        """How many editions there are."""
        return len(self._books)

    @property
    def claims(self):
        """The question, the verdict and the edition of each claim."""
        return tuple(self._pinned)

    @property
    def fallen(self):
        """The numbers of the claims that are fallen at the last edition."""
        return tuple([index + 1 for index, trail in enumerate(self._trails) if trail[-1][0] == "fallen"])

    @property
    def history(self):
        """All edits and pins that stand, in order."""
        return tuple(self._done)

    def twin(self):
        """An equal shelf that changes by itself."""
        twin = Shelf(self._prime)
        twin._books = [dict(things) for things in self._books]
        twin._pinned = list(self._pinned)
        twin._trails = [list(trail) for trail in self._trails]
        twin._done = list(self._done)
        return twin

    def __contains__(self, name):
        return isinstance(name, str) and name in self._books[-1]

    def __len__(self):
        return len(self._books[-1])

    def __eq__(self, other):
        if not isinstance(other, Shelf):
            return False
        return self._prime == other._prime and self._books == other._books and self._pinned == other._pinned

    def __str__(self):
        return f"shelf of {len(self._books[-1])} things at {self._prime}, edition {len(self._books)}"
