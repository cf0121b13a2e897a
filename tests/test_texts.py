"""Stage 20: texts."""

import unittest

from tests.samples import FIELDS, A, B, C, D, drawn_member
from tests.test_fields import WRONG_FIELDS, WRONG_MEMBERS, long_member
from tests.tools import BIG, NOTHING_LIKE_IT, WRONG_POLYNOMIALS, ErrorCase, deep, drawer
from wildsteps.errors import InvalidField, InvalidMember, InvalidNumber, InvalidOperation, InvalidPolynomial, ParseError
from wildsteps.errors import TooMany
from wildsteps.fields.fields import Field
from wildsteps.text import texts
from wildsteps.text.texts import read_field, read_member, read_polynomial, read_value, write_field, write_member
from wildsteps.text.texts import write_polynomial, write_value

NO_TEXTS = tuple(x for x in NOTHING_LIKE_IT if not isinstance(x, str)) + (0, b"2", ["2"], ("2",), "a" * 20001, " " * 20001, A)
VALUES = (
    None, 0, -1, 7, BIG - 1, 1 - BIG, (), (None,), ((),), (0, (1, 2), ()), A, D, (A, (B, -3)), ((None, (A, 7), ()),),
    deep(5, 8), deep((), 7), (deep(C, 7), 1), ((1, 2), (3, 4)), Field(2, (1, 1, 1), ((2, 0), (0, 2), (1, 0))))


class PiecesTest(unittest.TestCase, ErrorCase):

    def assert_wrong(self, index, function, *args):
        caught = self.assert_raises_just(ParseError, function, *args)
        self.assertEqual(caught.spot, index, args[-1])

    def test_constants_and_examples(self):
        self.assertEqual((texts.MAX_TEXT, texts.MOST_DEEP), (20000, 8))
        self.assertEqual(
            [write_polynomial((3, 0, -1)), write_polynomial(()), write_field(D), write_member(D, ((5, -1),)),
             read_field(" 2  0,1 -2/2/1") == B, read_polynomial("-"), write_value((None, (A, 7), ()))],
            ["3,0,-1", "-", "2 1,1,1 -2,0/1,0", "5,-1", True, (), "(none ([2 0,1 2/2/1] 7) ())"])

    def test_written_and_read(self):
        draw = drawer(221)
        polynomials = [(), (1,), (-1,), (0, 1), (0, 0, -7), (BIG - 1,) * 9, (1 - BIG, 0, 1)]
        polynomials += [tuple(draw.randint(-99, 99) for _ in range(draw.randint(0, 8))) + (draw.choice((-5, 1)),) for _ in range(30)]
        for polynomial in polynomials:
            text = write_polynomial(polynomial)
            self.assertEqual(text, ",".join(map(str, polynomial)) or "-")
            for spaced in (text, " " + text, text + "   ", "  " + text + " "):
                self.assertEqual(read_polynomial(spaced), polynomial)
        for field in FIELDS:
            for member in (drawn_member(draw, field), drawn_member(draw, field, 10 ** 20), long_member(field)):
                text = write_member(field, member)
                self.assertEqual(text, "/".join(",".join(map(str, row)) for row in member))
                for spaced in (text, " " + text, text + "   ", "  " + text + " "):
                    self.assertEqual(read_member(field, spaced), member)
            text = write_field(field)
            table = "/".join(",".join(map(str, row)) for row in field.top)
            self.assertEqual(text, f"{field.prime} {','.join(map(str, field.low))} {table}")
            for spaced in (text, "  " + text, text + "  ", text.replace(" ", "    ")):
                self.assertEqual(read_field(spaced), field)

    def test_wrong_polynomials(self):
        for text, index in (
                ("", 0), ("   ", 3), ("x", 0), ("  x", 2), ("1,", 0), (",1", 0), (" 1,,2", 1), ("1 2", 2), ("1  2 3", 3),
                ("- -", 2), ("1, 2", 0), ("--1", 0), ("-1-", 0), ("+1", 0), ("01", 0), ("-0", 0), ("-01", 0), ("1,00", 0),
                ("1\t2", 0), ("\t1", 0), ("1\n", 0), ("1.0", 0), ("1/2", 0), ("0x1", 0), ("1_0", 0), ("1,-", 0), ("-,1", 0),
                ("1 x", 2), ("x 1", 0), ("\u0661", 0), ("\xb2", 0), ("()", 0), ("none", 0), (" 1,2  3", 6), ("- 1", 2)):
            self.assert_wrong(index, read_polynomial, text)
        for text in ("0", "1,0", "0,0", "-5,0", ",".join("1" * 10), str(BIG), f"1,{-BIG}", "7" * 20000, "-" + "3" * 5000,
                     "1," + "7" * 4999 + ",0", "  0  "):
            self.assert_raises_just(InvalidPolynomial, read_polynomial, text)
        self.assertEqual(read_polynomial(" " * 19999 + "1"), (1,))
        self.assert_wrong(20000, read_polynomial, " " * 20000)
        self.assert_wrong(None, read_polynomial, " " * 20000 + "1")

    def test_signs_in_polynomials(self):
        # A sign left out, put in, exchanged or doubled: the same index, or what the text tells then.
        text = "12,-3,0,45"
        for k in range(len(text) + 1):
            for spoilt in [text[:k] + sign + text[k:] for sign in "0-,/ x"] + [text[:k] + text[k + 1:], text[:k] + text[k:k + 1] * 2]:
                pieces = spoilt.split()
                fine = all(part.lstrip("-").isdigit() and str(int(part)) == part for part in (pieces[0].split(",") if pieces else [""])
                           if part.count("-") < 2 and part != "-") and \
                    all(part.count("-") < 2 and part not in ("", "-") and part.rfind("-") < 1 for part in pieces[0].split(","))
                if fine and len(pieces) == 1:
                    numbers = tuple(map(int, pieces[0].split(",")))
                    if numbers[-1]:
                        self.assertEqual(read_polynomial(spoilt), numbers)
                    else:
                        self.assert_raises_just(InvalidPolynomial, read_polynomial, spoilt)
                else:
                    self.assert_wrong(spoilt.index(pieces[1], len(pieces[0])) if fine else 0, read_polynomial, spoilt)

    def test_wrong_members(self):
        for text, index in (
                ("", 0), ("  ", 2), ("-", 0), ("1/", 0), ("/1", 0), ("1//2", 0), (" 1/,", 1), ("1/2 3", 4), ("1 /2", 0 + 2),
                ("1/-", 0), ("1/-0", 0), ("1/02", 0), ("1/+2", 0), ("x/1", 0), ("1/2 ,", 4), ("1/2\t", 0), ("1;2", 0)):
            self.assert_wrong(index, read_member, A, text)
        for text in ("1", "1/2/3", "1,2", "1,2/3,4", "1,0/2", str(BIG) + "/1", "1/" + "9" * 61, "1/" + "7" * 9000, "1,2,3/1"):
            self.assert_raises_just(InvalidMember, read_member, A, text)
        self.assertEqual(read_member(A, " 1/" + "9" * 60 + " "), ((1,), (BIG - 1,)))

    def test_wrong_fields(self):
        for text, index in (
                ("", 0), ("2", 1), ("2 ", 2), ("2 0,1", 5), ("2 0,1 ", 6), ("x 0,1 2/1", 0), ("2 x 2/1", 2), ("2 0,1 x", 6),
                ("2 0,1 2/1 1", 10), ("02 0,1 2/1", 0), ("2 0,01 2/1", 2), ("2 0,1 -", 6), ("2 0,1 2//1", 6), ("- 0,1 2/1", 0),
                ("2,3 0,1 2/1", 0), ("2/3 0,1 2/1", 0), (" 2  0,1   2/1/  ", 10), ("2 0,1 2/1 ]", 10), ("+2 0,1 2/1", 0),
                ("2\t0,1 2/1", 0), ("2 0,1\n2/1", 2), ("2 x y", 2), ("x", 0)):
            self.assert_wrong(index, read_field, text)
        for text, given in (("4 0,1 2/1", 4), ("-2 - 5", -2), (f"{BIG} 0,1 2/1", BIG), ("0 0,1 2/1", 0)):
            self.assertEqual(self.assert_raises_just(InvalidNumber, read_field, text).given, given)
        caught = self.assert_raises_just(InvalidNumber, read_field, "3" * 19000 + " - 1")
        self.assertEqual(caught.given, (10 ** 19000 - 1) // 3)
        for text in ("2 - 2/1", "2 0 2/1", "2 1,0,1 2/1", "2 0,2 2/1", f"2 {BIG},1 2/1", "2 1,1,1,1,1,1,1,1,1,1 2/1"):
            self.assert_raises_just(InvalidPolynomial, read_field, text)
        for text in ("2 0,1 1/1", "2 0,1 4/1", "2 0,1 2", "2 0,1 2,0/1,0", "2 1,1,1 2/1", f"2 0,1 {2 * BIG}/1", "2 0,1 2/2"):
            self.assert_raises_just(InvalidField, read_field, text)
        self.assert_too_many(6, read_field, "2 0,1 2/0/0/0/0/0/0/1")
        self.assert_too_many(64, read_field, "7 2,0,0,1 7,0,0/1,0,0")
        self.assertIs(TooMany.__base__, OverflowError)

    def test_wrong_arguments(self):
        self.check_parameters(write_polynomial, ((1, 2),), ((InvalidPolynomial, tuple(
            x for x in WRONG_POLYNOMIALS if x != ())),))
        self.check_parameters(write_member, (A, ((1,), (2,))), ((InvalidField, WRONG_FIELDS), (InvalidMember, WRONG_MEMBERS)))
        self.check_parameters(write_field, (A,), ((InvalidField, WRONG_FIELDS),))
        self.check_parameters(read_member, (A, "1/2"), ((InvalidField, WRONG_FIELDS), (ParseError, NO_TEXTS)))
        for function in (read_polynomial, read_field, read_value):
            for wrong in NO_TEXTS:
                self.assert_wrong(None, function, wrong)
        for wrong in NO_TEXTS:
            self.assert_wrong(None, read_member, A, wrong)


class ValuesTest(unittest.TestCase, ErrorCase):

    def assert_wrong(self, index, text):
        self.assertEqual(self.assert_raises_just(ParseError, read_value, text).spot, index, text)

    def test_written_and_read(self):
        for value in VALUES:
            text = write_value(value)
            told = read_value(text)
            self.assertEqual(told, value)
            self.assertIs(type(told), type(value))
            self.assertEqual(write_value(told), text)
        self.assertEqual([write_value(value) for value in VALUES[:10]],
                         ["none", "0", "-1", "7", "9" * 60, "-" + "9" * 60, "()", "(none)", "(())", "(0 (1 2) ())"])

    def test_drawn_values(self):
        draw = drawer(222)

        def drawn(depth):
            kind = draw.random()
            if depth and kind < 0.5:
                return tuple(drawn(depth - 1) for _ in range(draw.randint(0, 3)))
            return draw.choice((None, 0, -5, 10 ** draw.randint(0, 59), draw.choice(FIELDS)))

        for _ in range(150):
            value = drawn(6)
            text = write_value(value)
            if len(text) <= 20000:
                self.assertEqual(read_value(text), value)
                # Each beginning of the text lacks something, or has something behind it.
                for end in range(min(len(text), 60)):
                    self.check_beginning(text, end)

    def check_beginning(self, text, end):
        beginning = text[:end]
        at = beginning.rfind("[")
        if at > beginning.rfind("]"):
            self.assert_wrong(at, beginning)
        elif beginning.count("(") > beginning.count(")") or beginning in ("", "-", "n", "no", "non"):
            self.assert_wrong(end, beginning)

    def test_wrong_texts(self):
        for text, index in (
                ("", 0), (" ", 0), ("x", 0), ("nine", 1), ("non", 3), ("nonee", 4), ("none ", 4), (" none", 0), ("None", 0),
                ("(", 1), (")", 0), ("(1", 2), ("(1 ", 3), ("(1 )", 3), ("( 1)", 1), ("(1  2)", 3), ("(1,2)", 2), ("(1 2))", 5),
                ("()()", 2), ("() ", 2), ("(()", 3), ("(1(2))", 2), ("-", 1), ("--1", 1), ("-0", 1), ("-x", 1), ("00", 1),
                ("01", 1), ("1x", 1), ("1 2", 1), ("(01)", 2), ("(-)", 2), ("+1", 0), ("1\n", 1), ("(1\t2)", 2), ("(none1)", 5),
                ("9" * 61, 60), ("-" + "9" * 61, 61), ("(1 " + "7" * 70 + ")", 63), ("(" * 9, 8), ("(" * 8, 8), ("(" * 8 + "1 (", 10),
                ("(" * 8 + ")" * 9, 16), ("(" * 9 + ")" * 9, 8), ("true", 0), ("'a'", 0), ("{}", 0), ("]", 0), ("(]", 1),
                ("(none none", 10), ("(nonenone)", 5), ("1" * 19999 + "x", 60), ("\u0661", 0), ("(1 \u0661)", 3)):
            self.assert_wrong(index, text)
        self.assertEqual(read_value("9" * 60), BIG - 1)

    def test_wrong_fields(self):
        for inner in ("", "2", "2 0,1", " 2 0,1 2/1", "2 0,1 2/1 ", "2  0,1 2/1", "2 0,1 2/1 1", "02 0,1 2/1", "4 0,1 2/1",
                      "2 0,1 1/1", "2 1,0,1 2/1", "2 0,1 2,0/1,0", "2 0,1 2/0/0/0/0/0/0/1", "7 2,0,0,1 7,0,0/1,0,0", "x",
                      f"2 0,1 {2 * BIG}/1", "3" * 9000 + " 0,1 2/1", "[2 0,1 2/1", "2 - 2/1", "2\t0,1 2/1", "(2 0,1 2/1)"):
            self.assert_wrong(0, f"[{inner}]")
            self.assert_wrong(3, f"(1 [{inner}] 2)")
        for text, index in (("[", 0), ("[2 0,1 2/1", 0), ("(5 [2 0,1 2/1", 3), ("[2 0,1 2/1]]", 11), ("[2 0,1 2/1] ", 11),
                            ("([2 0,1 2/1]5)", 12)):
            self.assert_wrong(index, text)
        self.assertEqual(read_value("([2 0,1 2/1] 5)"), (Field.of(2, (2, 1)), 5))

    def test_limits(self):
        long = tuple([10 ** 59] * 327)
        self.assertLessEqual(len(write_value(long)), 20000)
        self.assertEqual(read_value(write_value(long)), long)
        longer = long + (1,) * 80
        self.assertGreater(len(write_value(longer)), 20000)
        self.assert_wrong(None, write_value(longer))

    def test_no_told_values(self):
        for wrong in (True, False, "", "none", [], [1], {}, BIG, -BIG, (True,), (1, (False,)), ("1",), ([],), ({},), (BIG,),
                      deep(1, 9), deep((), 8), (1, deep((), 8)), (deep(True, 7),), 10 ** 219, (A, "a"), b"1", InvalidField("x")):
            self.assert_raises_just(InvalidOperation, write_value, wrong)


if __name__ == "__main__":
    unittest.main()
