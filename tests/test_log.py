"""Stage 19: the log of a shelf."""

import unittest

from tests.samples import A
from tests.test_shelf import EDITS, QUESTIONS, SEVEN, THINGS, THREES, log_of
from tests.tools import BIG, NOTHING_LIKE_IT, ErrorCase, drawer
from wildsteps.errors import InvalidOperation, ParseError, Refused
from wildsteps.house.log import log_text, read_log
from wildsteps.house.shelf import Shelf

TEXT = """shelf 2 / a field 0,1 2/2/1 / b field 0,1 -2/2/1 / g polynomial -17,0,1 / h polynomial 3,0,1
pin root g a
edit shift g -1 / add h - / by a 2/1
pin norm -6 b
edit field q 1,1,1 2,0/0,2/1,0 / polynomial z 3,1 / drop z
pin unsplit h
pin lead a q
edit add g 0,4
"""


def told_shelf():
    shelf = Shelf(2, dict(reversed(list(THINGS.items()))))
    shelf.pin(("root", "g", "a"))
    shelf.edit((("shift", "g", -1), ("add", "h", ()), ("by", "a", ((2,), (1,)))))
    shelf.pin(("norm", -6, "b"))
    shelf.edit((("field", "q", (1, 1, 1), ((2, 0), (0, 2), (1, 0))), ("polynomial", "z", (3, 1)), ("drop", "z")))
    shelf.pin(("unsplit", "h"))
    shelf.pin(("lead", "a", "q"))
    shelf.edit((("add", "g", (0, 4)),))
    return shelf


def drawn_shelf(draw):
    shelf = Shelf(2, {name: THINGS[name] for name in draw.sample(list(THINGS), draw.randint(0, 4))})
    for _ in range(draw.randint(0, 8)):
        try:
            if draw.random() < 0.5:
                shelf.edit(draw.choice(EDITS))
            else:
                shelf.pin(draw.choice(QUESTIONS))
        except (Refused, InvalidOperation):
            pass
    return shelf


class LogTest(unittest.TestCase, ErrorCase):

    def assert_wrong(self, index, text):
        self.assertEqual(self.assert_raises_just(ParseError, read_log, text).spot, index, text)

    def test_text(self):
        self.assertEqual(log_text(told_shelf()), TEXT)
        self.assertEqual(log_text(Shelf(2)), "shelf 2\n")
        self.assertEqual(log_text(Shelf(7, {"p": (0, 1), "a1": (1 - BIG, 1)})),
                         f"shelf 7 / a1 polynomial {1 - BIG},1 / p polynomial 0,1\n")
        shelf = Shelf(3, THREES)
        shelf.pin(("norm", BIG - 1, "k"))
        self.assertEqual(log_text(shelf), f"""shelf 3 / c field 0,1 -3/0/0/1 / k field 1,0,1 -3,0/1,0 / x1 polynomial -3,0,0,1 \
/ x2 polynomial 2,1,1
pin norm {BIG - 1} k
""")

    def test_undone_calls_are_left_out(self):
        shelf = Shelf(2, THINGS)
        shelf.edit(EDITS[0])
        shelf.pin(QUESTIONS[0])
        shelf.undo()
        self.assertEqual(log_text(shelf).count("\n"), 2)
        # The first edition tells the first line, whatever came later.
        self.assertTrue(log_text(shelf).startswith("shelf 2 / a field 0,1 2/2/1 / b field"))

    def test_read_as_it_was(self):
        draw = drawer(211)
        for shelf in [told_shelf(), Shelf(5), Shelf(7, SEVEN)] + [drawn_shelf(draw) for _ in range(40)]:
            text = log_text(shelf)
            read, length = read_log(text)
            self.assertEqual((read, length, log_of(read)), (shelf, len(text), log_of(shelf)))
            self.assertEqual(log_text(read), text)

    def test_beginnings(self):
        shelf = told_shelf()
        states = [shelf.twin()]
        while states[-1].history:
            states.append(states[-1].twin())
            states[-1].undo()
        states.reverse()
        for end in range(len(TEXT) + 1):
            text = TEXT[:end]
            lines = text.count("\n")
            if lines == 0:
                self.assert_wrong(0, text)
                continue
            read, length = read_log(text)
            self.assertEqual(length, text.rfind("\n") + 1)
            self.assertEqual(log_of(read), log_of(states[lines - 1]))

    def test_what_stands_behind_is_left_out(self):
        shelf, length = read_log(TEXT + "edit nonsense \t\x00")
        self.assertEqual((shelf, length), (told_shelf(), len(TEXT)))
        self.assertEqual(read_log("shelf 3\npin")[1], 8)

    def test_spoilt_lines(self):
        lines = TEXT.splitlines()
        for index, line in enumerate(lines):
            for wrong in ("", " ", line + " ", " " + line, line.replace(" ", "  ", 1), line[:-1], line + "\t", line + "\r",
                          line.upper(), line + " /", line + " / ", line.replace(" ", "\t", 1), line + " a", "edit", "pin",
                          "undo 1", "edit /", line + line, line.replace("-", "--", 1) if "-" in line else "x",
                          line.replace("2", "02", 1) if "2" in line else "y", line.replace("1", "+1", 1) if "1" in line else "z"):
                if wrong != line:
                    self.assert_wrong(index, "\n".join(lines[:index] + [wrong] + lines[index + 1:]) + "\n")

    def test_first_line(self):
        for wrong in ("", "shelf", "shelf ", "shelf 4", "shelf 02", "shelf -2", "shelf 2 ", " shelf 2", "shelf  2", "shelf 2 /",
                      "shelf 2 / ", "shelf 2 a field 0,1 2/2/1", "shelf 2 / a", "shelf 2 / a field", "shelf 2 / a field 0,1",
                      "shelf 2 / a field 0,1 2/2/1 5", "shelf 2 / a polynomial", "shelf 2 / a polynomial 1,2", "shelf 2 / a drop",
                      "shelf 2 / a polynomial -", "shelf 2 / A polynomial 1,1", "shelf 2 / a polynomial 01,1", "shelf x",
                      "shelf 2 / b polynomial 1,1 / a polynomial 1,1", "shelf 2 / a polynomial 1,1 / a polynomial 1,1",
                      "shelf 2 / a polynomial 1,1 / a polynomial 3,1", "shelf 2 / a field 0,1 2/2/2", "shelf 2 / a field 1,0,1 2/1",
                      "shelf 2 / a field 0,1 2/2/1/", "shelf 2 / a field 0,1 2//1", "shelf 2 / a polynomial 1,,1",
                      "shelf 2 // a polynomial 1,1", "shelf 2 / / a polynomial 1,1", "shelf 3 / a field 0,1 2/2/1",
                      f"shelf 2 / a polynomial {BIG},1", "shelf " + "7" * 5000, "shelf 2 / a polynomial 1,-0,1",
                      "shelf 2 / a polynomial -512,0,1", "shelf 2 / a polynomial 1,2,1", "Shelf 2", "pin unsplit g",
                      "shelf 2 / a field 0,1 2/2/1,", "shelf 2 / a field 0,1 4/1", "shelf 2 / a field 0,1 2,0/1,0",
                      "shelf 2 " + " ".join(f"/ a{k} polynomial 1,1" for k in range(9))):
            self.assert_wrong(0, wrong + "\n")
        self.assertEqual(read_log("shelf 2 / a polynomial 1,1 / b polynomial 1,1\n")[0],
                         Shelf(2, {"a": (1, 1), "b": (1, 1)}))

    def test_lines_whose_call_raises_an_error(self):
        first = "shelf 2 / a field 0,1 2/2/1 / g polynomial -17,0,1\n"
        for wrong in ("edit drop z", "edit shift a 1", "edit by g 1", "edit polynomial h 1,2,1", "edit field a 0,1 1/1",
                      "pin unsplit a", "pin unsplit z", "pin norm 0 a", "pin root g g", f"pin norm {BIG} a", "pin norm a 2",
                      f"edit shift g {BIG}", f"edit shift g {10 ** 50}", "edit add g " + "7" * 5000, "pin lead a", "pin other a",
                      "edit " + " / ".join(["shift g 1"] * 7), "edit by a 1/0/0/0/0/0/0", "edit field b 0,1 2,0/1,0",
                      "edit add g 0", "edit add g 1,0", "edit by a -", "edit drop a g", "edit shift g -", "edit field a - 2/1"):
            self.assert_wrong(1, first + wrong + "\n")
            self.assert_wrong(2, first + "pin unsplit g\n" + wrong + "\n" + "pin unsplit g\n")
        limit = first + "pin norm 2 a\n" * 12
        self.assertEqual(len(read_log(limit)[0].claims), 12)
        self.assert_wrong(13, limit + "pin norm 2 a\n")
        limit = first + "edit shift g 1\n" * 29
        self.assertEqual(read_log(limit)[0].editions, 30)
        self.assert_wrong(30, limit + "edit shift g 1\n")
        self.assert_wrong(1, "shelf 7 / g polynomial 2,0,0,1\npin unsplit g\n")

    def test_wrong_arguments(self):
        for wrong in NOTHING_LIKE_IT + (0, BIG, TEXT.encode(), [TEXT], (TEXT,), A):
            if isinstance(wrong, str):
                self.assert_wrong(0, wrong)
            else:
                self.assert_wrong(None, wrong)
        for wrong in NOTHING_LIKE_IT + (0, THINGS, A, TEXT, (told_shelf(),), log_of):
            self.assert_raises_just(InvalidOperation, log_text, wrong)

    def test_calls_change_no_shelf(self):
        shelf = told_shelf()
        before = log_of(shelf)
        read, _ = read_log(log_text(shelf))
        read.undo(calls=3)
        self.assertEqual(log_of(shelf), before)


if __name__ == "__main__":
    unittest.main()
