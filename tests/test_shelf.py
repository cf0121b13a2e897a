"""Stage 19: a shelf."""

import unittest

from tests import over, ring
from tests.samples import A, B, C
from tests.tools import BIG, NOTHING_LIKE_IT, WRONG_PRIMES, ErrorCase, deep, drawer
from wildsteps.errors import InvalidName, InvalidNumber, InvalidOperation, NothingToUndo, Refused
from wildsteps.fields.fields import Field
from wildsteps.fields.tops import field_by
from wildsteps.house import shelf as house
from wildsteps.house.shelf import Shelf, decide, edited, is_edit, is_paper, is_question
from wildsteps.norms.norms import is_norm_member, is_norm_test
from wildsteps.parts.parts import are_parts, is_unsplit, near_bound, parts_of
from wildsteps.roots.maps import are_bars, does_lead, is_lead
from wildsteps.roots.roots import is_fence, is_near_root

G, H = (-17, 0, 1), (3, 0, 1)
THINGS = {"a": A, "b": B, "g": G, "h": H}
THREES = {"c": C, "k": Field.plain(3, 2), "x1": (-3, 0, 0, 1), "x2": (2, 1, 1)}
SEVEN = {"p": Field.plain(7, 1), "cube": (2, 0, 0, 1), "two": (-2, 0, 1)}
QUESTIONS = (
    ("unsplit", "g"), ("unsplit", "h"), ("root", "g", "a"), ("root", "h", "a"), ("root", "h", "b"), ("root", "g", "b"),
    ("lead", "a", "a"), ("lead", "a", "b"), ("lead", "b", "b"), ("norm", 2, "a"), ("norm", 3, "a"), ("norm", -2, "b"),
    ("norm", 2, "b"))
PRIME = (InvalidNumber, WRONG_PRIMES)
WRONG_NAMES = ("", "A", "1a", "aA", "a_", "a b", "abcdefghi", "a.", " a", "a ", "a\n", "ab-", "\t", 1, None, ("a",), True)
WRONG_THINGS = tuple(x for x in NOTHING_LIKE_IT if x != {}) + (
    0, (), ("a", A), [("a", A)], {"a": C}, {"a": A, "b": C}, {"a": None}, {"a": ()}, {"a": (1,)}, {"a": (1, 2)}, {"a": (1, 2, 2)},
    {"a": (0, 0, 1)}, {"a": (1, 2, 1)}, {"a": [1, 1]}, {"a": (1, 0, 0, 0, 0, 0, 0, 1)}, {"a": (BIG, 1)}, {"a": (True, 1)},
    {"a": (-2 ** 9, 0, 1)}, {"a": (A,)}, {"a": "a"}, {"a": {}}, {f"a{k}": A for k in range(9)},
) + tuple({name: A} for name in WRONG_NAMES if name != ("a",)) + ({("a",): A}, {1: 2})
NOT_QUESTIONS = NOTHING_LIKE_IT + (
    0, (), ("unsplit",), ("unsplit", "g", "g"), ("root", "g"), ("root", "g", "a", "a"), ("lead", "a"), ("norm", "a"),
    ("norm", "a", 2), ("norm", 0, "a"), ("norm", True, "a"), ("norm", False, "a"), ("norm", (1, 2), "a"), ("norm", None, "a"),
    ("other", "a"), ["unsplit", "g"], "unsplit", (("unsplit", "g"),), ("unsplit", ("g",)), (1, "g"), ("unsplit", None),
    ("field", "a", (0, 1), ((2,), (1,))), ("drop", "a"), (None, "a"), ((), "a"), ([], "a"),
) + tuple(("unsplit", name) for name in WRONG_NAMES) + tuple(("lead", "a", name) for name in WRONG_NAMES)
NOT_EDITS = NOTHING_LIKE_IT + (
    0, (), ("drop",), ("drop", "a", "a"), ("field", "a"), ("field", "a", (0, 1)), ("field", "a", (0, 1), ((2,),)),
    ("field", "a", (0, 1), ()), ("field", "a", (0, 1), ((2,), ())), ("field", "a", (0, 1), ((1,) * 7, (1,))),
    ("field", "a", (0, 1), ((1,),) * 8), ("field", "a", (0, 1, 0), ((2,), (1,))), ("field", "a", [0, 1], ((2,), (1,))),
    ("field", "a", (0, 1), ((2,), (True,))), ("field", "a", (0, 1), [(2,), (1,)]), ("field", "a", (0, 1), ([2], (1,))),
    ("field", "a", A), ("polynomial", "a"), ("polynomial", "a", (1, 0)), ("polynomial", "a", (1,) * 10),
    ("polynomial", "a", 1), ("polynomial", "a", (None, 1)), ("shift", "a"), ("shift", "a", None), ("shift", "a", True),
    ("shift", "a", (1,)), ("shift", "a", (1, 2)), ("add", "a", (1, 0)), ("add", "a", (True,)), ("add", "a", 0),
    ("by", "a"), ("by", "a", ()), ("by", "a", ((1,), ())), ("by", "a", ((1,),) * 7), ("by", "a", ((1,) * 7,)),
    ("by", "a", (1,)), ("by", "a", [(1,)]), ("by", "a", ((True,),)), ["drop", "a"], "drop", (("drop", "a"),), ("unsplit", "a"),
    ("edit", "a"), (1, "a"), ((), "a"), ([], "a"),
) + tuple(("drop", name) for name in WRONG_NAMES) + tuple(("shift", name, 1) for name in WRONG_NAMES)
MANY = {f"a{k}": A for k in range(8)}


def judged(prime, things, question, verdict, value):
    """Whether a value is a paper, by the judges of the stages."""
    told = [things[name] for name in question[1:] if isinstance(name, str)]
    if question[0] == "unsplit":
        return are_parts(prime, told[0], value) and (len(value) == 1) is verdict
    if question[0] == "root":
        g = over.whole_over(told[1], told[0])
        return (is_near_root if verdict else is_fence)(told[1], g, value)
    if question[0] == "lead":
        return (is_lead if verdict else are_bars)(told[0], told[1], value)
    return (is_norm_member if verdict else is_norm_test)(told[0], question[1], value)


class QuestionsTest(unittest.TestCase, ErrorCase):

    def test_constants_and_examples(self):
        self.assertEqual((house.MAX_NAMED, house.MAX_CLAIMS, house.MAX_EDITIONS, house.MAX_EDITS, house.MAX_DOUBLE),
                         (8, 12, 30, 6, 10))
        shelf = Shelf(2, {"a": A, "g": (-17, 0, 1)})
        self.assertEqual(
            [shelf.pin(("unsplit", "g")), shelf.pin(("root", "g", "a")), shelf.pin(("norm", 3, "a")), shelf.claims[0],
             shelf.claims[2]], [1, 2, 3, (("unsplit", "g"), False, 1), (("norm", 3, "a"), False, 1)])

    def test_forms(self):
        for question in QUESTIONS + (("norm", BIG, "a"), ("norm", -10 ** 219, "zz9"), ("lead", "abcdefgh", "a1234567")):
            self.assertIs(is_question(question), True)
        self.check_judge(is_question, (), NOT_QUESTIONS)

    def test_verdicts_and_papers(self):
        verdicts = []
        for prime, things, questions in (
                (2, THINGS, QUESTIONS),
                (3, THREES, (("unsplit", "x1"), ("unsplit", "x2"), ("root", "x1", "c"), ("root", "x1", "k"), ("root", "x2", "k"),
                             ("root", "x2", "c"), ("lead", "c", "k"), ("lead", "k", "k"), ("norm", 3, "k"), ("norm", 9, "k"),
                             ("norm", BIG - 1, "c"), ("norm", -7, "k"))),
                (7, SEVEN, (("unsplit", "two"), ("root", "two", "p"), ("lead", "p", "p"), ("norm", 7, "p")))):
            for question in questions:
                verdict, paper = decide(prime, things, question)
                self.assertIn(verdict, (True, False))
                verdicts.append((question[0], verdict))
                self.assertTrue(judged(prime, things, question, verdict, paper))
                self.assertIs(is_paper(prime, things, question, verdict, paper), True)
                self.assertIs(is_paper(prime, things, question, not verdict, paper), False)
                # The order of the names has no effect.
                turned = dict(reversed(list(things.items())))
                self.assertEqual(decide(prime, turned, question), (verdict, paper))
                for other in questions:
                    told = decide(prime, things, other)
                    self.assertIs(is_paper(prime, things, question, verdict, told[1]),
                                  judged(prime, things, question, verdict, told[1]))
        self.assertEqual(len(set(verdicts)), 8)

    def test_papers_of_the_tests_own(self):
        zero, r = ((0,), (0,)), ((0,), (1,))
        self.assertIs(is_paper(2, THINGS, ("lead", "a", "a"), True, (zero, ((-2,), (-1,)))), True)
        self.assertIs(is_paper(2, THINGS, ("lead", "a", "a"), True, (zero, ((0,), (0,)))), False)
        plain = {"a": A, "q": Field.plain(2, 1)}
        for letter, step, told in ((0, 2, True), (0, 2 + 2 ** 90, True), (2, 2, True), (1, 2, False), (0, 1, False)):
            pair = (((letter,), (0,)), ((step,), (0,)))
            self.assertIs(is_paper(2, plain, ("lead", "q", "a"), True, pair), told)
        self.assertIs(is_paper(2, plain, ("lead", "q", "a"), True, (((0,),), ((2,),))), False)
        self.assertIs(is_paper(2, plain, ("lead", "a", "q"), True, (zero, ((2,), (0,)))), False)
        self.assertIs(is_paper(2, THINGS, ("norm", 2, "a"), True, r), True)
        self.assertIs(is_paper(2, THINGS, ("norm", 3, "a"), False, ((0, 1), (1, 2), (0, 1))), True)
        self.assertIs(is_paper(2, THINGS, ("norm", 5, "a"), False, ((0, 1), (1, 2), (0, 1))), False)
        self.assertIs(is_paper(2, THINGS, ("root", "g", "a"), True, ((1,), (0,))), True)
        self.assertIs(is_paper(2, THINGS, ("root", "g", "a"), True, ((9 + 2 ** 300,), (0,))), True)
        self.assertIs(is_paper(2, THINGS, ("root", "g", "a"), True, ((2,), (0,))), False)
        # A root of x ** 2 + 3 over no field here: a fence made by hand, ball by ball.
        fence = over.coarsest(A, over.whole_over(A, H))
        self.assertIs(is_paper(2, THINGS, ("root", "h", "a"), False, fence), True)
        self.assertIs(is_paper(2, THINGS, ("root", "h", "a"), False, fence[1:]), False)
        parts = parts_of(2, G)
        self.assertIs(is_paper(2, THINGS, ("unsplit", "g"), False, parts[::-1]), True)
        self.assertIs(is_paper(2, THINGS, ("unsplit", "g"), False, parts[:1]), False)
        self.assertIs(is_paper(2, THINGS, ("unsplit", "g"), True, parts), False)
        one = ((Field.of(3, (-3, 0, 0, 1)), ((0,), (1,), (0,))),)
        self.assertIs(is_paper(3, THREES, ("unsplit", "x1"), True, one), True)
        self.assertIs(is_paper(3, THREES, ("unsplit", "x1"), False, one), False)

    def test_wrong_papers(self):
        for question in QUESTIONS:
            for verdict in (True, False):
                if question == ("lead", "a", "b") and not verdict:
                    continue
                self.check_judge(is_paper, (2, THINGS, question, verdict), (0, 1, (), (A,), ((1,),), ("root", 1), 10 ** 200))

    def test_limits_of_things(self):
        self.assertEqual(decide(2, MANY, ("norm", 2, "a7"))[0], True)
        self.assertEqual(decide(2, {"abcdefgh": (-2 ** 7 * 3, 0, 1)}, ("unsplit", "abcdefgh"))[0], True)
        # v of the discriminant is 10 with 2 ** 8, and 11 with 2 ** 9.
        self.assertEqual(decide(2, {"a": (-2 ** 8, 0, 1)}, ("unsplit", "a"))[0], False)
        self.assert_raises_just(InvalidName, decide, 2, {"a": (-2 ** 9, 0, 1)}, ("unsplit", "a"))
        self.assertEqual(decide(2, {"a": (1, 1, 0, 0, 0, 0, 1)}, ("unsplit", "a"))[0], True)
        self.assertEqual(decide(5, {"a": (5, 1)}, ("unsplit", "a"))[0], True)
        self.assertEqual(decide(2, {"a": (1 - BIG, 1)}, ("unsplit", "a"))[0], True)

    def test_too_many(self):
        # A factor with the plain size 3 for 7 has no field here.
        self.assert_too_many(64, decide, 7, SEVEN, ("unsplit", "cube"))
        self.assertEqual(decide(7, SEVEN, ("root", "cube", "p"))[0], False)

    def test_wrong_arguments(self):
        others = tuple(x for x in NOT_QUESTIONS) + (
            ("unsplit", "zz"), ("unsplit", "a"), ("root", "a", "a"), ("root", "g", "g"), ("root", "a", "g"), ("root", "g", "zz"),
            ("root", "zz", "a"), ("lead", "a", "g"), ("lead", "g", "a"), ("lead", "a", "zz"), ("norm", 2, "g"), ("norm", 2, "zz"),
            ("norm", BIG, "a"), ("norm", -10 ** 219, "a"))
        things, question = (InvalidName, WRONG_THINGS), (InvalidOperation, others)
        self.check_parameters(decide, (2, THINGS, ("unsplit", "g")), (PRIME, things, question))
        verdicts = tuple(x for x in NOTHING_LIKE_IT if not isinstance(x, bool)) + (0, 1, "True", (True,))
        self.check_parameters(is_paper, (2, THINGS, ("unsplit", "g"), False, ()), (
            PRIME, things, question, (InvalidOperation, verdicts), None))
        self.assert_raises_just(InvalidName, decide, 2, THREES, ("unsplit", "x1"))
        self.assert_raises_just(InvalidOperation, decide, 2, {}, ("unsplit", "g"))


class EditsTest(unittest.TestCase, ErrorCase):

    def test_forms(self):
        for edit in (("field", "a", (0, 1), ((2,), (1,))), ("field", "a", (), ((0,) * 6,) * 7), ("polynomial", "a1", ()),
                     ("polynomial", "a", (BIG,) * 9), ("drop", "abcdefgh"), ("shift", "a", 0), ("shift", "a", -10 ** 219),
                     ("add", "a", ()), ("add", "a", (0, 0, 5)), ("by", "a", ((0,),)), ("by", "a", ((BIG,) * 6,) * 6)):
            self.assertIs(is_edit(edit), True)
        self.check_judge(is_edit, (), NOT_EDITS)

    def test_each_kind(self):
        things = dict(THINGS)
        for edit, wanted in (
                (("field", "z", (1, 1, 1), ((2, 0), (0, 2), (1, 0))),
                 {**THINGS, "z": Field(2, (1, 1, 1), ((2, 0), (0, 2), (1, 0)))}),
                (("field", "g", (0, 1), ((2,), (2,), (1,))), {**THINGS, "g": A}),
                (("polynomial", "a", (5, 1)), {**THINGS, "a": (5, 1)}),
                (("polynomial", "aa", (2, 2, 1)), {**THINGS, "aa": (2, 2, 1)}),
                (("drop", "b"), {"a": A, "g": G, "h": H}),
                (("shift", "g", 3), {**THINGS, "g": (-8, 6, 1)}),
                (("shift", "g", -1), {**THINGS, "g": (-16, -2, 1)}),
                (("add", "g", (1, 2)), {**THINGS, "g": (-16, 2, 1)}),
                (("add", "g", ()), THINGS),
                (("add", "g", (0, 0, -1, 1)), {**THINGS, "g": (-17, 0, 0, 1)}),
                (("by", "a", ((2,), (1,))), {**THINGS, "a": Field.of(2, (2, -2, 1))})):
            told = edited(2, things, (edit,))
            self.assertEqual(told, wanted)
            self.assertEqual(list(told), sorted(told))
            self.assertEqual(things, THINGS)

    def test_one_after_the_other(self):
        told = edited(2, {}, (
            ("polynomial", "b", (1, 0, 1)), ("shift", "b", 1), ("field", "a", (0, 1), ((2,), (2,), (1,))), ("drop", "b"),
            ("polynomial", "b", (3, 1)), ("by", "a", ((0,), (3,)))))
        self.assertEqual(told, {"a": field_by(A, ((0,), (3,))), "b": (3, 1)})
        turned = edited(2, dict(reversed(list(THINGS.items()))), (("drop", "a"),))
        self.assertEqual(list(turned), ["b", "g", "h"])

    def check_refused(self, prime, things, edits, index, word):
        caught = self.assert_raises_just(Refused, edited, prime, things, edits)
        self.assertEqual(caught.reason, ("edit", index, word))
        shelf = Shelf(prime, things)
        before = (log_of(shelf), str(shelf))
        caught = self.assert_raises_just(Refused, shelf.edit, edits)
        self.assertEqual(caught.reason, ("edit", index, word))
        self.assertEqual((log_of(shelf), str(shelf)), before)

    def test_refusals(self):
        top = ((2,), (2,), (1,))
        for edit, word in (
                (("drop", "zz"), "unknown"), (("shift", "zz", 1), "unknown"), (("add", "zz", (1,)), "unknown"),
                (("by", "zz", ((1,),)), "unknown"), (("shift", "a", 1), "kind"), (("add", "a", (0, 1)), "kind"),
                (("by", "g", ((0,), (1,))), "kind"), (("by", "a", ((1,), (0,))), "thing"), (("by", "a", ((0, 1),)), "thing"),
                (("by", "a", ((0,), (10 ** 40,))), "thing"), (("field", "z", (0, 1), ((1,), (1,))), "thing"),
                (("field", "z", (1, 0, 1), top), "thing"), (("field", "z", (), top), "thing"),
                (("field", "a", (0, 1), ((4,), (1,))), "thing"), (("field", "z", (0, 1), ((2, 0), (1, 0))), "thing"),
                (("field", "z", (1, 1, 1), ((2, 0),) + ((0, 0),) * 3 + ((1, 0),)), "thing"),
                (("polynomial", "z", ()), "thing"), (("polynomial", "z", (1,)), "thing"), (("polynomial", "z", (1, 2)), "thing"),
                (("polynomial", "g", (1, 2, 1)), "thing"), (("polynomial", "z", (-2 ** 9, 0, 1)), "thing"),
                (("polynomial", "z", (1, 0, 0, 0, 0, 0, 0, 1)), "thing"), (("add", "g", (0, 0, -1)), "thing"),
                (("add", "g", (17,)), "thing"), (("add", "g", (0, 0, 0, 0, 0, 0, 0, 1)), "thing"),
                (("shift", "g", 10 ** 35), "thing"), (("add", "g", (BIG - 1, 1 - BIG)), None)):
            if word is None:
                self.assertEqual(edited(2, THINGS, (edit,))["g"], (BIG - 18, 1 - BIG, 1))
                continue
            self.check_refused(2, THINGS, (edit,), 0, word)
            self.check_refused(2, THINGS, (("drop", "h"), edit, ("drop", "zz")), 1, word)
        self.check_refused(2, {"g": (1 - BIG, 0, 1)}, (("add", "g", (1 - BIG,)),), 0, "thing")

    def test_ninth_thing(self):
        for edit in (("field", "b", (0, 1), ((2,), (2,), (1,))), ("polynomial", "b", (1, 2, 1)), ("field", "b", (), ((1,), (1,)))):
            self.check_refused(2, MANY, (edit,), 0, "many")
            self.check_refused(2, MANY, (("drop", "a0"), ("polynomial", "c", (1, 1)), edit), 2, "many")
        self.assertEqual(len(edited(2, MANY, (("polynomial", "a0", (1, 1)),))), 8)
        self.assertEqual(len(edited(2, MANY, (("drop", "a0"), ("polynomial", "c", (1, 1))))), 8)
        # A name that is not there comes first where there are eight.
        self.check_refused(2, MANY, (("shift", "b", 1),), 0, "unknown")

    def test_first_word(self):
        self.check_refused(2, THINGS, (("by", "zz", ((BIG - 1,) * 6,) * 6),), 0, "unknown")
        self.check_refused(2, THINGS, (("by", "g", ((5,) * 6,) * 6),), 0, "kind")
        self.check_refused(2, THINGS, (("add", "a", (0, 0, -1)),), 0, "kind")

    def test_wrong_arguments(self):
        edit = ("drop", "a")
        edits = NOTHING_LIKE_IT + (
            0, (), edit, [edit], (edit,) * 7, (edit, None), (edit, ("drop",)), ("drop", "a"), (("shift", "g", BIG),),
            (("polynomial", "g", (BIG, 1)),), (("by", "a", ((-BIG,), (1,))),), (("field", "a", (0, 1), ((BIG,), (1,))),),
            (("shift", "g", True),)) + tuple((wrong,) for wrong in NOT_EDITS)
        self.check_parameters(edited, (2, THINGS, (edit,)), (PRIME, (InvalidName, WRONG_THINGS), (InvalidOperation, edits)))
        shelf = Shelf(2, THINGS)
        for wrong in edits:
            self.assert_raises_just(InvalidOperation, shelf.edit, wrong)
        self.assertEqual((shelf.editions, shelf.history), (1, ()))
        six = tuple(("shift", "g", k) for k in range(6))
        self.assertEqual(shelf.edit(six), 2)


def log_of(shelf):
    """All that can be asked of a shelf."""
    editions = [shelf.things_at(k + 1) for k in range(shelf.editions)]
    standings = [[shelf.standing(n + 1, k + 1) for k in range(claim[2] - 1, shelf.editions)]
                 for n, claim in enumerate(shelf.claims)]
    return (shelf.shelf_prime, editions, standings, shelf.claims, shelf.history, shelf.fallen)


class Model:
    """A shelf by the words of the document, made anew for each question."""

    def __init__(self, prime, things):
        self.prime, self.books, self.claims, self.calls = prime, [dict(things)], [], []

    def verdict(self, question, edition):
        try:
            return decide(self.prime, self.books[edition - 1], question)[0]
        except InvalidOperation:
            return None

    def check(self, case, shelf):
        case.assertEqual((shelf.editions, len(shelf), shelf.history), (len(self.books), len(self.books[-1]), tuple(self.calls)))
        case.assertEqual(shelf.claims, tuple(self.claims))
        fallen = []
        for n, (question, verdict, first) in enumerate(self.claims):
            last = None
            for edition in range(first, len(self.books) + 1):
                told = shelf.standing(n + 1, edition)
                now = self.verdict(question, edition)
                case.assertEqual(told[1], now)
                if now is None:
                    case.assertEqual(told, ("fallen", None, None))
                else:
                    case.assertTrue(is_paper(self.prime, self.books[edition - 1], question, now, told[2]))
                if now is not verdict:
                    word = "fallen"
                elif edition == first:
                    word = "stands"
                else:
                    again = last[1] is not None and is_paper(self.prime, self.books[edition - 1], question, now, last[2])
                    word = "stands" if again else "another"
                    case.assertTrue(not again or told[2] == last[2])
                case.assertEqual(told[0], word)
                last = told
            case.assertEqual(shelf.standing(n + 1), last)
            if last[0] == "fallen":
                fallen.append(n + 1)
        case.assertEqual(shelf.fallen, tuple(fallen))
        for edition, things in enumerate(self.books):
            case.assertEqual(shelf.things_at(edition + 1), things)
            case.assertEqual(list(shelf.things_at(edition + 1)), sorted(things))
        case.assertEqual(shelf.things_at(), self.books[-1])
        case.assertEqual(shelf.things_at(None), self.books[-1])
        for name in ("a", "b", "g", "zz", "A", 1, None, ("a",), [], {}):
            case.assertIs(name in shelf, isinstance(name, str) and name in self.books[-1])
        case.assertEqual(str(shelf), f"shelf of {len(self.books[-1])} things at {self.prime}, edition {len(self.books)}")


EDITS = (
    (("shift", "g", 1),), (("by", "a", ((2,), (1,))),), (("add", "g", (4,)), ("shift", "h", -2)), (("drop", "g"),),
    (("polynomial", "g", (-17, 0, 1)),), (("field", "b", (0, 1), ((2,), (2,), (1,))),), (("polynomial", "b", (3, 1)),),
    (("field", "b", (0, 1), ((-2,), (2,), (1,))),), (("add", "h", (2,)),), (("add", "h", (-2,)),),
    (("field", "a", (1, 1, 1), ((2, 0), (1, 0))),), (("polynomial", "g", (2, 2, 1)),), (("add", "g", (-19, -2)),))


class ShelfTest(unittest.TestCase, ErrorCase):

    def test_against_a_model(self):
        draw = drawer(201)
        words = set()
        for _ in range(12):
            shelf, model = Shelf(2, THINGS), Model(2, THINGS)
            for _ in range(14):
                kind = draw.random()
                if kind < 0.5:
                    edits = draw.choice(EDITS)
                    try:
                        things = edited(2, model.books[-1], edits)
                    except Refused as refused:
                        caught = self.assert_raises_just(Refused, shelf.edit, edits)
                        self.assertEqual(caught.reason, refused.reason)
                        continue
                    self.assertEqual(shelf.edit(edits), len(model.books) + 1)
                    model.books.append(things)
                    model.calls.append(("edit", edits))
                elif kind < 0.85:
                    question = draw.choice(QUESTIONS)
                    verdict = model.verdict(question, len(model.books))
                    if verdict is None:
                        self.assert_raises_just(InvalidOperation, shelf.pin, question)
                        continue
                    model.claims.append((question, verdict, len(model.books)))
                    model.calls.append(("pin", question))
                    self.assertEqual(shelf.pin(question), len(model.claims))
                elif model.calls:
                    calls = draw.randint(1, min(3, len(model.calls)))
                    self.assertEqual(shelf.undo(calls=calls), len(model.calls) - calls)
                    for word, _ in reversed(model.calls[-calls:]):
                        (model.claims if word == "pin" else model.books).pop()
                    del model.calls[-calls:]
            model.check(self, shelf)
            words |= {shelf.standing(n + 1, k)[0] for n, claim in enumerate(shelf.claims)
                      for k in range(claim[2], shelf.editions + 1)}
        self.assertEqual(words, {"stands", "another", "fallen"})

    def test_standings(self):
        shelf = Shelf(2, {"g": G, "a": A})
        shelf.pin(("root", "g", "a"))
        first = shelf.standing(1)
        self.assertEqual(first[:2], ("stands", True))
        shelf.edit((("add", "g", (2 ** 9,)),))
        self.assertEqual(shelf.standing(1), first)
        shelf.edit((("shift", "g", 1),))
        self.assertEqual(shelf.standing(1)[:2], ("another", True))
        shelf.edit((("add", "g", (0, 2 ** 9)),))
        self.assertEqual(shelf.standing(1)[:2], ("stands", True))
        shelf.edit((("polynomial", "g", H),))
        self.assertEqual(shelf.standing(1)[:2], ("fallen", False))
        shelf.edit((("drop", "g"),))
        self.assertEqual(shelf.standing(1), ("fallen", None, None))
        shelf.edit((("field", "g", (0, 1), ((2,), (1,))),))
        self.assertEqual(shelf.standing(1), ("fallen", None, None))
        self.assertEqual(shelf.fallen, (1,))
        shelf.edit((("polynomial", "g", G),))
        self.assertEqual(shelf.standing(1)[:2], ("another", True))
        self.assertEqual([shelf.standing(1, k)[0] for k in range(1, 9)],
                         ["stands", "stands", "another", "stands", "fallen", "fallen", "fallen", "another"])
        self.assertEqual((shelf.standing(1, 1), shelf.standing(1, edition=2)), (first, first))
        self.assertEqual(shelf.fallen, ())

    def test_claims_that_do_not_fall(self):
        draw = drawer(202)
        for prime, things in ((2, THINGS), (3, THREES)):
            for _ in range(10):
                shelf = Shelf(prime, things)
                fields = [name for name in things if isinstance(things[name], Field)]
                polynomials = [name for name in things if name not in fields]
                for name in polynomials:
                    shelf.pin(("unsplit", name))
                    shelf.pin(("root", name, fields[0]))
                for name in fields:
                    shelf.pin(("norm", draw.choice((-1, 2, 3, 5)), name))
                    shelf.pin(("lead", name, draw.choice(fields)))
                for _ in range(4):
                    name = draw.choice(polynomials)
                    now = shelf.things_at()
                    n = near_bound(prime, now[name])
                    degree = draw.randint(1, len(now[name]) - 1)
                    h = tuple(prime ** n * draw.randint(-2, 2) for _ in range(degree - 1)) + (prime ** n,)
                    field = draw.choice(fields)
                    member = ring.added(ring.letters(now[field])[1], ring.product(
                        now[field], ring.whole(now[field], prime), tuple(
                            tuple(draw.randint(-1, 1) for _ in row) for row in ring.whole(now[field], 1))))
                    if ring.value(now[field], member) != 1:
                        continue
                    shelf.edit((("shift", name, draw.randint(-3, 3)), ("add", name, h), ("by", field, member)))
                    self.assertEqual(shelf.fallen, ())
                    self.assertEqual({shelf.standing(k + 1)[0] for k in range(len(shelf.claims))} - {"stands", "another"}, set())

    def test_verdicts_are_those_of_the_stages(self):
        for question in QUESTIONS:
            told = decide(2, THINGS, question)[0]
            if question[0] == "unsplit":
                self.assertIs(told, is_unsplit(2, THINGS[question[1]]))
            if question[0] == "lead":
                self.assertIs(told, does_lead(THINGS[question[1]], THINGS[question[2]]))

    def test_limits(self):
        shelf = Shelf(2, THINGS)
        for k in range(29):
            self.assertEqual(shelf.edit((("shift", "g", 1),)), k + 2)
        for _ in range(12):
            shelf.pin(("norm", 2, "a"))
        before = log_of(shelf)
        self.assert_too_many(30, shelf.edit, (("shift", "g", 1),))
        self.assert_too_many(12, shelf.pin, ("norm", 2, "a"))
        self.assertEqual(self.assert_raises_just(Refused, shelf.edit, (("drop", "zz"),)).reason, ("edit", 0, "unknown"))
        self.assert_raises_just(InvalidOperation, shelf.edit, ())
        self.assert_raises_just(InvalidOperation, shelf.pin, ("norm", 2, "zz"))
        self.assertEqual(log_of(shelf), before)
        self.assertEqual(shelf.undo(), 40)
        self.assertEqual(shelf.pin(("norm", 3, "a")), 12)
        self.assertEqual(shelf.undo(calls=41), 0)
        self.assertEqual((shelf.editions, shelf.claims), (1, ()))

    def test_too_many_as_of_decide(self):
        shelf = Shelf(7, SEVEN)
        before = log_of(shelf)
        self.assert_too_many(64, shelf.pin, ("unsplit", "cube"))
        self.assertEqual(log_of(shelf), before)
        shelf.pin(("unsplit", "two"))
        before = log_of(shelf)
        self.assert_too_many(64, shelf.edit, (("polynomial", "two", (2, 0, 0, 1)),))
        self.assertEqual(log_of(shelf), before)
        self.assertEqual(shelf.edit((("polynomial", "two", (-3, 0, 1)),)), 2)
        self.assertEqual(shelf.fallen, (1,))

    def test_undo(self):
        shelf = Shelf(2, THINGS)
        logs = [log_of(shelf)]
        for call in (("edit", EDITS[0]), ("pin", QUESTIONS[0]), ("pin", QUESTIONS[3]), ("edit", EDITS[3]), ("edit", EDITS[4])):
            getattr(shelf, call[0])(call[1])
            logs.append(log_of(shelf))
        for calls in (1, 2):
            twin = shelf.twin()
            self.assertEqual(twin.undo(calls=calls), 5 - calls)
            self.assertEqual(log_of(twin), logs[-1 - calls])
        for left in range(4, -1, -1):
            self.assertEqual(shelf.undo(), left)
            self.assertEqual(log_of(shelf), logs[left])
        for calls in (1, 2, BIG - 1):
            caught = self.assert_raises_just(NothingToUndo, shelf.undo, calls=calls)
            self.assertEqual(caught.wanted, calls)
        shelf.edit(EDITS[0])
        self.assertEqual(self.assert_raises_just(NothingToUndo, shelf.undo, calls=2).wanted, 2)
        self.assertEqual(log_of(shelf), logs[1])
        for wrong in NOTHING_LIKE_IT + (0, -1, BIG, (1,), 10 ** 219):
            caught = self.assert_raises_just(InvalidNumber, shelf.undo, calls=wrong)
            self.assertIs(caught.given, wrong)
        self.assertRaises(TypeError, shelf.undo, 1)

    def test_twins_and_equality(self):
        shelf = Shelf(2, THINGS)
        shelf.pin(QUESTIONS[0])
        shelf.edit(EDITS[0])
        twin = shelf.twin()
        self.assertTrue(twin == shelf and not twin != shelf)
        self.assertEqual(log_of(twin), log_of(shelf))
        before = log_of(shelf)
        twin.pin(QUESTIONS[1])
        twin.edit(EDITS[3])
        self.assertEqual(log_of(shelf), before)
        self.assertNotEqual(twin, shelf)
        twin.undo(calls=4)
        self.assertEqual(log_of(shelf), before)
        self.assertEqual(twin, Shelf(2, THINGS))
        # Equal editions by other edits are equal, other editions are not.
        one, other, third = (Shelf(2, THINGS) for _ in range(3))
        one.edit((("shift", "g", 2),))
        other.edit((("shift", "g", 1), ("shift", "g", 1)))
        third.edit((("shift", "g", 1),))
        third.edit((("shift", "g", 1),))
        self.assertEqual(one, other)
        self.assertNotEqual(one, third)
        one.pin(QUESTIONS[0])
        self.assertNotEqual(one, other)
        self.assertNotEqual(Shelf(2), Shelf(3))
        self.assertEqual(Shelf(2), Shelf(2, {}))
        self.assertEqual(Shelf(2, None), Shelf(2, {}))
        for value in NOTHING_LIKE_IT + (0, THINGS, A, Shelf):
            self.assertIs(shelf == value, False)
            self.assertIs(shelf != value, True)
            self.assertIs(value in shelf, False)

    def test_shares_no_state(self):
        things = {"g": G, "a": A}
        shelf = Shelf(2, things)
        things["z"] = B
        del things["a"]
        self.assertEqual(shelf.things_at(), {"a": A, "g": G})
        shelf.things_at().clear()
        shelf.things_at(1)["q"] = A
        self.assertEqual(list(shelf.things_at(1)), ["a", "g"])
        self.assertEqual((len(shelf), "z" in shelf, "a" in shelf), (2, False, True))
        for function in (list, tuple, iter, sorted):
            self.assertRaises(TypeError, function, shelf)
        for name in ("shelf_prime", "editions", "claims", "fallen", "history"):
            self.assertRaises(AttributeError, setattr, shelf, name, 5)
        self.assertEqual(str(Shelf(2, {"a": A, "g": G, "h": H})), "shelf of 3 things at 2, edition 1")
        self.assertEqual((shelf.shelf_prime, shelf.editions, shelf.claims, shelf.fallen, shelf.history), (2, 1, (), (), ()))

    def test_wrong_arguments(self):
        things = (InvalidName, tuple(x for x in WRONG_THINGS if x is not None))
        self.check_parameters(Shelf, (2, THINGS), (PRIME, things))
        self.check_parameters(Shelf, (2,), (PRIME,))
        shelf = Shelf(2, THINGS)
        shelf.edit(EDITS[0])
        shelf.pin(QUESTIONS[0])
        shelf.edit(EDITS[0])
        before = log_of(shelf)
        wrong = NOTHING_LIKE_IT + (0, -1, 4, BIG, (1,), 10 ** 219)
        editions = (InvalidNumber, tuple(x for x in wrong if x is not None))
        self.check_parameters(shelf.things_at, (3,), (editions,))
        self.check_parameters(shelf.standing, (1, 3), ((InvalidNumber, wrong + (2,)), (InvalidNumber, editions[1] + (1,))))
        self.check_parameters(shelf.standing, (1,), ((InvalidNumber, wrong + (2,)),))
        for wrong in NOT_QUESTIONS + (("unsplit", "a"), ("unsplit", "zz"), ("norm", BIG, "a"), deep("x", 2)):
            self.assert_raises_just(InvalidOperation, shelf.pin, wrong)
        self.assertEqual(log_of(shelf), before)
        self.assert_raises_just(InvalidNumber, Shelf(2).standing, 1)


if __name__ == "__main__":
    unittest.main()
