"""Stage 20: a shell."""

import unittest

from tests.samples import A
from tests.test_shelf import EDITS, MANY, QUESTIONS, SEVEN, THINGS, THREES, log_of
from tests.tools import BIG, NOTHING_LIKE_IT, ErrorCase, drawer
from wildsteps.errors import InvalidOperation, Refused
from wildsteps.fields.fields import Field
from wildsteps.house.log import log_text, read_log
from wildsteps.house.shelf import Shelf, decide, is_paper
from wildsteps.parts.parts import part_sizes
from wildsteps.steps.lines import step_line
from wildsteps.text import shell as text_shell
from wildsteps.text.shell import Shell
from wildsteps.text.texts import read_value, write_value

NO_SHELVES = NOTHING_LIKE_IT + (0, THINGS, A, Shelf, (Shelf(2),), [Shelf(2)])
NO_LINES = tuple(x for x in NOTHING_LIKE_IT if not isinstance(x, str)) + (
    0, "a" * 2001, " " * 2001, "names\n", "\tnames", "names\x7f", "nam\u00e9s", "names\x00", b"names", ("names",), A)


def piece(value):
    """The piece of a polynomial or of a tuple of tuples."""
    if value and isinstance(value[0], tuple):
        return "/".join(",".join(map(str, row)) for row in value)
    return ",".join(map(str, value)) or "-"


def line_of(told):
    """The line of an edit or a question."""
    return " ".join(part if isinstance(part, str) else piece(part) if isinstance(part, tuple) else str(part) for part in told)


class ShellTest(unittest.TestCase, ErrorCase):

    def test_constants_and_objects(self):
        self.assertEqual((text_shell.MAX_LINE, text_shell.MOST_LINES), (2000, 40))
        shelf = Shelf(2, THINGS)
        shell = Shell(shelf)
        self.assertEqual((shell.said, str(shell)), (0, "shell, 0 lines said"))
        shell.run(("names", "", "what"))
        self.assertEqual((shell.said, str(shell)), (3, "shell, 3 lines said"))
        # It keeps the shelf itself.
        self.assertEqual(shell.say("drop a"), "edition 2")
        self.assertNotIn("a", shelf)
        shelf.edit((("drop", "b"),))
        self.assertEqual(shell.say("names"), "g h")
        for function in (list, tuple, iter, sorted, len):
            self.assertRaises(TypeError, function, shell)
        self.assertRaises(AttributeError, setattr, shell, "said", 9)

    def test_each_line(self):
        shell = Shell(Shelf(2, THINGS))
        for line, answer in (
                ("field q 1,1,1 2,0/0,2/1,0", "edition 2"), ("polynomial z 3,0,1", "edition 3"), ("drop z", "edition 4"),
                ("shift g 3", "edition 5"), ("shift g -3", "edition 6"), ("add g 0,4", "edition 7"), ("add g -", "edition 8"),
                ("by a 2/1", "edition 9"), ("names", "a b g h q"), ("show a", "field 0,1 2/-2/1"), ("show b", "field 0,1 -2/2/1"),
                ("show q", "field 1,1,1 2,0/0,2/1,0"), ("show g", "polynomial -17,4,1"), ("show h", "polynomial 3,0,1"),
                ("sizes h", "((1 2))"), ("sizes g", write_value(part_sizes(2, (-17, 4, 1)))), ("steps b", "(((1 1) 1))"),
                ("steps q", write_value(step_line(Field(2, (1, 1, 1), ((2, 0), (0, 2), (1, 0)))))),
                ("pin unsplit h", "claim 1"), ("pin norm 3 a", "claim 2"), ("pin lead a b", "claim 3"), ("pin root h q", "claim 4"),
                ("stand 1", "stands"), ("stand 4", "stands"), ("undo 1", "calls 11"), ("drop b", "edition 10"),
                ("stand 3", "fallen"), ("undo 5", "calls 7"), ("names", "a b g h q"), ("undo 7", "calls 0"), ("names", "a b g h"),
                ("", ""), ("      ", ""), ("  names   ", "a b g h"), ("  show   g ", "polynomial -17,0,1")):
            self.assertEqual(shell.say(line), answer, line)
        self.assertEqual(Shell(Shelf(3)).say("names"), "")

    def test_asking(self):
        for prime, things, questions in (
                (2, THINGS, QUESTIONS), (3, THREES, (("unsplit", "x1"), ("lead", "c", "k"), ("norm", BIG - 1, "c"),
                                                     ("root", "x2", "k"))), (7, SEVEN, (("norm", -7, "p"),))):
            shelf = Shelf(prime, things)
            shell = Shell(shelf)
            for question in questions:
                verdict, paper = decide(prime, things, question)
                answer = shell.say("ask " + line_of(question))
                word, told = answer.split(" ", 1)
                self.assertEqual((word, told), ("yes" if verdict else "no", write_value(paper)))
                self.assertTrue(is_paper(prime, things, question, verdict, read_value(told)))
            self.assertEqual((shelf.history, shell.said), ((), len(questions)))

    def test_wrong_pieces(self):
        shelf = Shelf(2, THINGS)
        shell = Shell(shelf)
        before = log_of(shelf)
        for line, index in (
                ("what", 0), ("  what", 2), ("Names", 0), ("names a", 6), ("names  names", 7), ("field", 5), ("field ", 6),
                ("field a", 7), ("field a 0,1", 11), ("field a 0,1 ", 12), ("field A 0,1 2/1", 6), ("field a 0,01 2/1", 8),
                ("field a 0,1 2//1", 12), ("field a 0,1 -", 12), ("field a 0,1 2/1 x", 16), ("field a 2/1 0,1", 8),
                ("polynomial", 10), ("polynomial a", 12), ("polynomial a 1/2", 13), ("polynomial a 1,1 1", 17),
                ("polynomial abcdefghi 1,1", 11), ("polynomial 1a 1,1", 11), ("drop", 4), ("drop a b", 7), ("drop a_", 5), ("shift g", 7),
                ("shift g x", 8), ("shift g 01", 8), ("shift g -0", 8), ("shift g +1", 8), ("shift g 1,2", 8), ("shift g 1 2", 10),
                ("shift 1 g", 6), ("add g", 5), ("add g 1/2", 6), ("add g --1", 6), ("by a", 4), ("by a -", 5), ("by a 1/", 5),
                ("by a 1/2 3", 9), ("ask", 3), ("ask ", 4), ("ask what", 4), ("ask what a", 4), ("ask unsplit", 11),
                ("ask unsplit g g", 14), ("ask unsplit G", 12), ("ask root g", 10), ("ask root g a a", 13), ("ask root g A", 11),
                ("ask lead a", 10), ("ask lead a 1", 11), ("ask norm", 8), ("ask norm a 3", 9), ("ask norm 3", 10),
                ("ask norm 3 a a", 13), ("ask norm 03 a", 9), ("ask norm 1/2 a", 9), ("ask ask", 4), ("pin", 3), ("pin show", 4),
                ("pin norm 3 a 4", 13), ("  pin   lead  a", 15), ("pin field a", 4), ("undo", 4), ("undo x", 5), ("undo 1 1", 7),
                ("undo 01", 5), ("stand", 5), ("stand a", 6), ("stand 1 2", 8), ("show", 4), ("show 1", 5), ("show a b", 7),
                ("sizes", 5), ("sizes g g", 8), ("steps", 5), ("steps -", 6), ("unsplit g", 0), ("edit drop a", 0), ("edition", 0),
                ("norm 3 a", 0), ("yes", 0), ("7", 0), ("-", 0), ("drop " + "a" * 9, 5), ("~", 0), ("ask norm " + "-" * 5 + " a", 9)):
            self.assertEqual(shell.say(line), f"wrong at {index}", line)
        self.assertEqual(log_of(shelf), before)

    def test_what_is_not_done(self):
        shelf = Shelf(2, THINGS)
        shell = Shell(shelf)
        before = log_of(shelf)
        for line, answer in (
                ("drop zz", "refused unknown"), ("shift zz 1", "refused unknown"), ("shift a 1", "refused kind"),
                ("by g 0/1", "refused kind"), ("by a 1/0", "refused thing"), ("by a 0,1", "refused thing"),
                ("polynomial g 1,2,1", "refused thing"), ("polynomial g -512,0,1", "refused thing"), ("polynomial g -", "refused thing"),
                ("field q 0,1 1/1", "refused thing"), ("field q 1,0,1 2/1", "refused thing"), ("add g 17", "refused thing"),
                (f"shift g {10 ** 40}", "refused thing"), (f"shift g {BIG}", "invalid"), (f"shift g {'7' * 1900}", "invalid"),
                ("polynomial g 1,0", "invalid"), ("polynomial g 0", "invalid"), ("add g 1,0", "invalid"),
                ("polynomial g 1,1,1,1,1,1,1,1,1,1", "invalid"), (f"polynomial g {BIG},1", "invalid"), ("field q 0,1 1", "invalid"),
                ("field q 0,1 2/0/0/0/0/0/0/1", "invalid"), ("field q 0,1 2,0,0,0,0,0,0/1", "invalid"), ("by a 0/0/0/0/0/0/1", "invalid"),
                ("ask unsplit zz", "invalid"), ("ask unsplit a", "invalid"), ("ask root a g", "invalid"), ("ask norm 0 a", "invalid"),
                (f"ask norm {BIG} a", "invalid"), ("ask norm 3 g", "invalid"), ("ask lead a g", "invalid"), ("pin unsplit zz", "invalid"),
                ("pin norm 0 a", "invalid"), ("undo 0", "invalid"), ("undo -1", "invalid"), (f"undo {BIG}", "invalid"),
                ("undo 1", "nothing to undo"), (f"undo {BIG - 1}", "nothing to undo"), ("stand 1", "invalid"), ("stand 0", "invalid"),
                ("show zz", "invalid"), ("sizes a", "invalid"), ("steps g", "invalid"), ("sizes zz", "invalid"), ("steps zz", "invalid")):
            self.assertEqual(shell.say(line), answer, line)
        self.assertEqual(log_of(shelf), before)
        self.assertEqual(Shell(Shelf(2, MANY)).say("polynomial b 1,1"), "refused many")

    def test_too_many(self):
        shelf = Shelf(7, SEVEN)
        shell = Shell(shelf)
        before = log_of(shelf)
        self.assertEqual(shell.run(("ask unsplit cube", "pin unsplit cube")), ("too many 64", "too many 64"))
        self.assertEqual(log_of(shelf), before)
        self.assertEqual(shell.run(("sizes cube", "ask norm 7 p"))[0], "((1 3))")
        self.assertEqual(shell.run(("shift two 1",) * 29)[-1], "edition 30")
        self.assertEqual(shell.say("shift two 1"), "too many 30")
        self.assertEqual(shell.run(("pin norm 2 p",) * 13)[-2:], ("claim 12", "too many 12"))
        self.assertEqual(shell.say("undo 42"), "nothing to undo")
        self.assertEqual(shell.say("undo 41"), "calls 0")
        self.assertEqual(log_of(shelf), before)

    def test_running(self):
        shell = Shell(Shelf(2, THINGS))
        self.assertEqual(shell.run(()), ())
        self.assertEqual(shell.run(("names",) * 40), ("a b g h",) * 40)
        self.assertEqual(shell.said, 40)
        self.assertEqual(shell.run(("drop a", "show a", "undo 1", "show a")),
                         ("edition 2", "invalid", "calls 0", "field 0,1 2/2/1"))
        shelf = Shelf(2, THINGS)
        shell = Shell(shelf)
        for wrong in NOTHING_LIKE_IT + (0, "names", ["names"], ("names",) * 41, ("drop a", None), ("drop a", "names\n"),
                                        ("drop a", "a" * 2001), ("drop a", ("drop a",)), {"drop a": 1}):
            if wrong not in ((), ("1",)):
                self.assert_raises_just(InvalidOperation, shell.run, wrong)
        for wrong in NO_LINES:
            self.assert_raises_just(InvalidOperation, shell.say, wrong)
            self.assert_raises_just(InvalidOperation, shell.run, ("drop a", wrong))
        self.assertEqual((shell.said, shelf.editions), (0, 1))
        self.assertEqual(shell.say("names" + " " * 1995), "a b g h")
        for wrong in NO_SHELVES:
            self.assert_raises_just(InvalidOperation, Shell, wrong)

    def test_lines_and_calls_come_to_the_same(self):
        draw = drawer(231)
        for prime, things, edits, questions in ((2, THINGS, EDITS, QUESTIONS), (3, THREES, (
                (("shift", "x1", 1),), (("add", "x2", (0, 3)),), (("by", "c", ((3,), (1,), (0,))),), (("drop", "k"),)), (
                ("unsplit", "x1"), ("lead", "c", "k"), ("norm", 3, "k"), ("root", "x2", "c")))):
            for _ in range(8):
                one, other = Shelf(prime, things), Shelf(prime, things)
                shell = Shell(one)
                for _ in range(14):
                    kind = draw.random()
                    try:
                        if kind < 0.5:
                            edit = draw.choice(edits)[:1]
                            answer, wanted = shell.say(line_of(edit[0])), f"edition {other.editions + 1}"
                            other.edit(edit)
                        elif kind < 0.8:
                            question = draw.choice(questions)
                            answer, wanted = shell.say("pin " + line_of(question)), f"claim {len(other.claims) + 1}"
                            other.pin(question)
                        elif other.history:
                            calls = draw.randint(1, min(2, len(other.history)))
                            answer, wanted = shell.say(f"undo {calls}"), f"calls {len(other.history) - calls}"
                            other.undo(calls=calls)
                        else:
                            continue
                    except Refused as refused:
                        wanted = f"refused {refused.reason[-1]}"
                    except InvalidOperation:
                        wanted = "invalid"
                    self.assertEqual(answer, wanted)
                    for n in range(len(other.claims)):
                        self.assertEqual(shell.say(f"stand {n + 1}"), other.standing(n + 1)[0])
                self.assertEqual(one, other)
                self.assertEqual((log_of(one), log_text(one)), (log_of(other), log_text(other)))
                self.assertEqual(read_log(log_text(one))[0], other)
                self.assertEqual(shell.say("names"), " ".join(other.things_at()))
                for name, thing in other.things_at().items():
                    if isinstance(thing, Field):
                        wanted = f"field {piece(thing.low)} {piece(thing.top)}"
                        self.assertEqual(shell.say(f"steps {name}"), write_value(step_line(thing)))
                    else:
                        wanted = f"polynomial {piece(thing)}"
                        self.assertEqual(shell.say(f"sizes {name}"), write_value(part_sizes(prime, thing)))
                    self.assertEqual(shell.say(f"show {name}"), wanted)


if __name__ == "__main__":
    unittest.main()
