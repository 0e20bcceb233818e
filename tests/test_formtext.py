"""callsheard/formtext.py: [26] and [27] and the interface."""

import random
import re
import unittest

from callsheard.errors import BadText
from callsheard.forms import form_of
from callsheard.formtext import format_form, parse_form
from tests.support import check_clean, form_trials

NUMBER = "(?:0|[1-9][0-9]?)"
BARE = re.compile(r"(?:[a-z]{1,8}|-)\[" + NUMBER + "(?:," + NUMBER + r")*\]")


def is_written(text):
    """True if a text is a written form: bare blocks become B, and blocks with inner blocks C, from inside out."""
    if not re.fullmatch(r"[a-z0-9,\[\]() -]*", text):
        return False
    # Each bare block begins the text or follows a space or a bracket.
    left = re.sub(r"(?<![a-z\-\])0-9,\[])" + BARE.pattern, "B", text)
    while True:
        less = re.sub(r"B\([BC](?: [BC])*\)", "C", left)
        if less == left:
            return re.fullmatch(r"[BC](?: [BC])*", left) is not None
        left = less


def can_go_on(text):
    """True if a text is the beginning of some written form."""
    depth = text.count("(") - text.count(")")
    return any(
        is_written(text + more + ")" * depth) for more in ("", "]", "0]", "[0]", "a[0]")
    )


def place_of(text):
    return max(k for k in range(len(text) + 1) if k == 0 or can_go_on(text[:k]))


class FormatTest(unittest.TestCase):
    def test_example_of_the_document(self):
        form = (("drum", (1,), (("bell", (0,), ()), (None, (2,), ()))),)
        self.assertEqual(format_form(form), "drum[1](bell[0] -[2])")
        self.assertEqual(parse_form("drum[1](bell[0] -[2])"), form)

    def test_blocks(self):
        self.assertEqual(format_form((("a", (0,), ()),)), "a[0]")
        self.assertEqual(format_form(((None, (0, 1, 11), ()),)), "-[0,1,11]")
        self.assertEqual(format_form((("a", (0,), ()), (None, (1,), ()), ("b", (2,), ()))), "a[0] -[1] b[2]")
        self.assertEqual(
            format_form((("a", (0,), (("b", (1,), (("c", (2,), ()),)), ("d", (3,), ()))), ("e", (4,), ()))),
            "a[0](b[1](c[2]) d[3]) e[4]",
        )

    def test_any_nested_tuples_that_reading_can_return(self):
        form = ((None, (99, 5, 5), (("aa", (0,), ()), (None, (10, 9), (("aa", (7,), ()),)))),)
        self.assertEqual(format_form(form), "-[99,5,5](aa[0] -[10,9](aa[7]))")


class ParseTest(unittest.TestCase):
    def place(self, text):
        with self.assertRaises(BadText) as caught:
            parse_form(text)
        return caught.exception.place

    def test_texts(self):
        self.assertEqual(parse_form("-[0]"), ((None, (0,), ()),))
        self.assertEqual(parse_form("abcdefgh[10,2]"), (("abcdefgh", (10, 2), ()),))
        self.assertEqual(parse_form("z[99,0,0]"), (("z", (99, 0, 0), ()),))
        self.assertEqual(parse_form("-[1](a[1] a[1])"), ((None, (1,), (("a", (1,), ()), ("a", (1,), ()))),))
        self.assertEqual(
            parse_form("a[0](b[1](c[2]) d[3]) e[4]"),
            (("a", (0,), (("b", (1,), (("c", (2,), ()),)), ("d", (3,), ()))), ("e", (4,), ())),
        )

    def test_forms_there_and_back(self):
        for house, log in form_trials(81):
            form = form_of(house, log)
            text = format_form(form)
            self.assertEqual(parse_form(text), form)
            self.assertEqual(format_form(parse_form(text)), text)

    def test_places_that_the_document_names(self):
        self.assertEqual(self.place("bell[0] "), 8)
        self.assertEqual(self.place(""), 0)

    def test_texts_that_end_too_early(self):
        for text in (
            "a", "abcdefgh", "-", "a[", "a[0", "a[1", "a[12", "a[0,", "a[0,1", "a[0](", "a[0](b", "a[0](b[1]",
            "a[0](b[1] ", "a[0](b[1](c[2])", "a[0] ", "a[0] b", "a[0](-", "a[0](b[1]) ",
        ):
            self.assertEqual(self.place(text), len(text), text)

    def test_characters_that_cannot_stand_there(self):
        for text, place in (
            (" ", 0), (" a[0]", 0), ("[0]", 0), ("0", 0), ("A[0]", 0), ("(a[0])", 0), (")", 0), ("]", 0), (",", 0),
            ("a-[0]", 1), ("-a[0]", 1), ("--[0]", 1), ("a [0]", 1), ("a(", 1), ("a]", 1), ("a0", 1), ("aB[0]", 1),
            ("abcdefghi[0]", 8), ("- [0]", 1), ("a\n[0]", 1),
            ("a[]", 2), ("a[,", 2), ("a[a]", 2), ("a[-1]", 2), ("a[ 0]", 2), ("a[[", 2), ("a[(", 2), ("a[+1]", 2),
            ("a[00]", 3), ("a[01]", 3), ("a[0 ]", 3), ("a[0a]", 3), ("a[1 ]", 3), ("a[1[", 3), ("a[0)", 3),
            ("a[123]", 4), ("a[100]", 4), ("a[10 ]", 4), ("a[0,]", 4), ("a[0,,", 4), ("a[0, 1]", 4), ("a[0,00]", 5),
            ("a[1,234]", 6), ("a[1.5]", 3),
            ("a[0])", 4), ("a[0]]", 4), ("a[0][", 4), ("a[0]b", 4), ("a[0],", 4), ("a[0]-", 4), ("a[0]0", 4),
            ("a[0]\n", 4), ("a[0]  b[1]", 5), ("a[0] )", 5), ("a[0] (", 5), ("a[0] 1", 5), ("a[0] \n", 5),
            ("a[0]()", 5), ("a[0]( b[1])", 5), ("a[0]((b[1]))", 5), ("a[0](1)", 5),
            ("a[0](b[1] )", 10), ("a[0](b[1]))", 10), ("a[0](b[1])(c[2])", 10), ("a[0](b[1])c[2]", 10),
            ("a[0](b[1])[", 10), ("a[0](b[1],c[2])", 9), ("a[0](b[1]]", 9), ("a[0](b[1])  ", 11), ("a[0](b[1]) )", 11),
            ("bell[0] Bell[1]", 8), ("bell[0]{", 7), ("bell[0,1] drum[2,", 17), ("bell[0] drum[2]x", 15),
        ):
            self.assertEqual(self.place(text), place, text)

    def test_each_character_at_each_place(self):
        text = "drum[1,10](bell[0](-[2,3] abcdefgh[4])) -[7]"
        self.assertEqual(format_form(parse_form(text)), text)
        for k in range(len(text) + 1):
            for character in "az-019,[]() ABZ_\n~":
                for tried in (text[:k] + character + text[k:], text[:k] + character + text[k + 1:], text[:k] + character):
                    self.judge(tried)
            self.judge(text[:k])
            self.judge(text[:k] + text[k + 1:])
            self.judge(text[:k] + text[k + 2:])

    def judge(self, text):
        if is_written(text):
            self.assertEqual(format_form(parse_form(text)), text)
        else:
            self.assertEqual(self.place(text), place_of(text), text)

    def test_any_texts(self):
        dice = random.Random(82)
        for _ in range(3000):
            text = "".join(dice.choice(["a", "z", "-", "0", "1", "9", ",", "[", "]", "(", ")", " ", "a[0]", "-[1]("])
                           for _ in range(dice.randrange(9)))
            self.judge(text)

    def test_deep_nesting(self):
        for count in (10, 66):
            text = "a[0](" * count + "-[1]" + ")" * count
            self.assertEqual(format_form(parse_form(text)), text)
            self.assertEqual(self.place(text[:-1]), len(text) - 1)
            self.assertEqual(self.place(text + ")"), len(text))
        self.assertEqual(self.place("-[0](" * 80), 400)
        self.assertEqual(self.place("-[0](" * 79 + "-[0]x"), 399)

    def test_long_texts(self):
        text = " ".join(["bell[0]"] * 50)
        self.assertEqual(parse_form(text), (("bell", (0,), ()),) * 50)
        text = "a[" + ",".join(["11"] * 130) + "]"
        self.assertEqual(parse_form(text), (("a", (11,) * 130, ()),))
        self.assertEqual(self.place("a" * 400), 8)
        self.assertEqual(self.place("a[" + "1," * 199), 400)

    def test_numbers(self):
        for number in range(100):
            self.assertEqual(parse_form(f"a[{number}]"), (("a", (number,), ()),))
            self.assertEqual(format_form((("a", (number,), ()),)), f"a[{number}]")
        for number in range(10):
            self.assertEqual(self.place(f"a[0{number}]"), 3)

    def test_nothing_is_kept(self):
        check_clean(self, parse_form, "a[0] -[1]")
        check_clean(self, format_form, (("a", (0,), ()), (None, (1,), ())))
