import copy
import itertools
import random
import unittest

from roadsay.errors import NoSaying, NoShape, NoText
from roadsay.letters import letters_of
from roadsay.sayings import is_saying
from roadsay.tables import saying_of
from roadsay.texts import read_saying, shown_saying
from roadsay.turned import test_of as test_for
from roadsay.turned import turned_saying

import oracle
import oracle_texts
from things import (CUBE, LONG_ROUND, NO_CHANGES, NO_LETTERS, NO_SAYINGS, NO_SHAPES, NO_TABLES, ROUND, SIX_NOTES,
                    any_letter, count_on, count_parts, deep, then_all)

YES, NO, NOTE = ("yes",), ("no",), ("note",)

WRITTEN = [
    ("yes", YES),
    ("no", NO),
    ("note", NOTE),
    ("a=0", ("is", 0, 0)),
    ("a=1", ("is", 0, 1)),
    ("b=0", ("is", 1, 0)),
    ("b=2", ("is", 1, 2)),
    ("c=3", ("is", 2, 3)),
    ("a:0", ("put", 0, 0)),
    ("b:1", ("put", 1, 1)),
    ("c:3", ("put", 2, 3)),
    ("not(a=1)", ("not", ("is", 0, 1))),
    ("not(yes)", ("not", YES)),
    ("not(not(no))", ("not", ("not", NO))),
    ("not((yes;no))", ("not", ("then", YES, NO))),
    ("again(note)", ("again", NOTE)),
    ("again(again(a:1))", ("again", ("again", ("put", 0, 1)))),
    ("again((note|a:1))", ("again", ("either", NOTE, ("put", 0, 1)))),
    ("(yes;no)", ("then", YES, NO)),
    ("(yes|no)", ("either", YES, NO)),
    ("((yes;no);note)", ("then", ("then", YES, NO), NOTE)),
    ("(yes;(no;note))", ("then", YES, ("then", NO, NOTE))),
    ("((yes|no);(note|no))", ("then", ("either", YES, NO), ("either", NOTE, NO))),
    ("(not(b=1)|again(note))", ("either", ("not", ("is", 1, 1)), ("again", NOTE))),
    ("(a=0;(again((note;b:2))|c:0))",
     ("then", ("is", 0, 0), ("either", ("again", ("then", NOTE, ("put", 1, 2))), ("put", 2, 0)))),
]
SHAPE = (2, 3, 4)


def within(word, many, inner="yes"):
    """A text of so many brackets within one another."""
    opening, closing = {"then": ("(", ";no)"), "either": ("(", "|no)"), "not": ("not(", ")"), "again": ("again(", ")"),
                        "behind": ("(no;", ")")}[word]
    return opening * many + inner + closing * many


KINDS = ("then", "either", "not", "again", "behind")


class ShownTest(unittest.TestCase):
    def test_each_word(self):
        # The shape (2, 3, 4) has 24 letters.
        for text, saying in WRITTEN:
            told = shown_saying(SHAPE, saying)
            self.assertEqual(told, text)
            self.assertIs(type(told), str)

    def test_each_field_and_value(self):
        for shape in [(1,), (4,), (4, 4), (2, 3, 4), (4, 3, 2), CUBE]:
            for field, many in enumerate(shape):
                for value in range(many):
                    sign = "abc"[field]
                    self.assertEqual(shown_saying(shape, ("is", field, value)), f"{sign}={value}")
                    self.assertEqual(shown_saying(shape, ("put", field, value)), f"{sign}:{value}")

    def test_many_sayings(self):
        for shape in [(1,), (4,), (2, 2), (2, 3, 4)]:
            for saying in oracle.some_sayings(shape, 100, 137):
                told = shown_saying(shape, saying)
                self.assertEqual(told, oracle_texts.shown(saying))
                self.assertRegex(told, r"\A[a-z0-9=:;|()]*\Z")

    def test_what_lies_deep(self):
        saying = NOTE
        for at in range(3000):
            saying = ("again", ("then", saying, YES))
        self.assertEqual(shown_saying((2,), saying), "again((" * 3000 + "note" + ";yes))" * 3000)

    def test_what_was_told_is_shown(self):
        for saying in [test_for(CUBE, letters_of(CUBE)), turned_saying(CUBE, LONG_ROUND),
                       saying_of(CUBE, [((-1, 0, 1), [(0, 0, -1), (1, -1, 1)])] * 60)]:
            self.assertEqual(shown_saying(CUBE, saying), oracle_texts.shown(saying))


class ReadTest(unittest.TestCase):
    def reads(self, shape, text, saying):
        self.assertEqual(read_saying(shape, text), saying)

    def refuses(self, shape, text):
        with self.assertRaises(NoText, msg=repr(text)[:200]):
            read_saying(shape, text)

    def test_each_word(self):
        for text, saying in WRITTEN:
            self.reads(SHAPE, text, saying)

    def test_what_is_shown_is_read_again(self):
        for shape in [(1,), (4,), (2, 2), (2, 3, 4), CUBE]:
            for saying in oracle.some_sayings(shape, 100, 139):
                self.reads(shape, shown_saying(shape, saying), saying)
            for saying in [any_letter(shape), count_on(shape)]:
                self.reads(shape, shown_saying(shape, saying), saying)
        self.reads(CUBE, shown_saying(CUBE, ROUND), ROUND)

    def test_blanks(self):
        for text in ["yes", "a=1", "(yes;no)", "not(a=1)", "again(note)"]:
            for at in range(len(text) + 1):
                self.refuses(SHAPE, text[:at] + " " + text[at:])
            self.refuses(SHAPE, "  " + text)
        self.refuses(SHAPE, "")
        self.refuses(SHAPE, " ")
        self.refuses(SHAPE, "  ")

    def test_other_signs(self):
        signs = [sign for sign in map(chr, range(32, 127))] + ["\n", "\t", "\x00", "\xa0", "\xb2", "\u0661"]
        for text in ["yes", "a=1", "a:1", "(yes;no)", "(yes|no)", "not(a=1)", "again(note)"]:
            for at in range(len(text) + 1):
                for sign in signs:
                    for other in (text[:at] + sign + text[at:], text[:at] + sign + text[at + 1:]):
                        self.agrees(SHAPE, other)

    def test_one_sign_left_out_or_two_changed_about(self):
        for text, saying in WRITTEN:
            for at in range(len(text)):
                self.agrees(SHAPE, text[:at] + text[at + 1:])
                self.agrees(SHAPE, text[:at] + text[at + 1:at + 2] + text[at:at + 1] + text[at + 2:])
                self.agrees(SHAPE, text[:at])
                self.agrees(SHAPE, text[at:])

    def agrees(self, shape, text):
        """Whether a text is read, and as what, is as the second way tells."""
        wanted = oracle_texts.read(text, False)
        if wanted is not None and is_saying(shape, wanted):
            self.reads(shape, text, wanted)
            self.assertEqual(shown_saying(shape, wanted), text)
            return True
        self.refuses(shape, text)
        return False

    def test_all_short_rows_of_words(self):
        read = 0
        for many in range(6):
            for row in itertools.product(["yes", "a=1", "not", "again", "(", ")", ";", "|"], repeat=many):
                read += self.agrees((2,), "".join(row))
        # The two words, not and again of each, then and either of any two.
        self.assertEqual(read, 2 + 2 * 2 + 2 * 4)

    def test_longer_rows_of_words(self):
        chance = random.Random(149)
        words = ["yes", "note", "a=1", "b:0", "not(", "again(", "(", "(", ")", ")", ";", "|"]
        for at in range(6000):
            self.agrees((2, 2), "".join(chance.choices(words, k=chance.randrange(1, 12))))
        for saying in oracle.some_sayings((2, 2), 300, 151):
            text = shown_saying((2, 2), saying)
            for at in range(6):
                place = chance.randrange(len(text) + 1)
                word = chance.choice(words + [""])
                self.agrees((2, 2), text[:place] + word + text[place + chance.randrange(3):])

    def test_missing_and_needless_brackets(self):
        for text in ["(yes)", "((yes;no))", "yes;no", "yes|no", "(yes;no", "yes;no)", "(yes;no))", "((yes;no)",
                     "(yes;no;note)", "(yes|no|note)", "(yes;no|note)", "()", "(;)", "(|)", "(yes;)", "(;yes)",
                     "(yes|)", "(|yes)", "not", "again", "not()", "again()", "notyes", "againyes", "not a=1", "nota=1",
                     "not(yes;no)", "again(yes|no)", "not(yes", "again(yes", "not((yes))", "again((note))", "(not)(yes)",
                     "not(yes)no", "not(yes)(no)", "(yes;no)(yes;no)", "yes(no)", "yes(", "yes)", "(", ")", "a=1(yes)",
                     ")yes(", "(not(yes;no)", "(yes;no)yes", "yes(yes;no)", "(yesno)", "yesno", "yes;", ";yes", ";", "|",
                     "(yes;;no)", "(yes;|no)", "(yes||no)", "no()", "note(yes)", "yes(yes)", "again(again)", "not(not)",
                     "(no;again)", "(not;yes)", "(yes;no)(;yes)", "(yes|no)(|yes)", "again(yes)(;no)", "not(yes)not(;no)"]:
            self.refuses(SHAPE, text)
            self.assertIsNone(oracle_texts.read(text, False), text)

    def test_other_words(self):
        for text in ["Yes", "YES", "No", "y", "ye", "yess", "n", "not", "notes", "on", "maybe", "x", "a", "b", "is", "put",
                     "then", "either", "foo", "name", "(foo;yes)", "again(foo)", "not(foo)", "is(0,0)", "('yes',)",
                     "then(yes;no)", "either(yes|no)", "Not(yes)", "AGAIN(yes)", "a=1=1", "a==1", "a=:1", "a:=1", "a1",
                     "a=", "=1", "=", ":", "a", "1", "a=a", "a=-1", "a=+1", "a=01", "a=00", "a=10", "a=1.", "a=1.0",
                     "A=1", "aa=1", "ab=1", "d=1", "0=1", "1=a", "_=1", "a=1;", "a=1a", "a!1", "a-1", "a>1"]:
            self.refuses(SHAPE, text)

    def test_fields_and_values_beyond_the_shape(self):
        for shape in [(1,), (2,), (4,), (2, 2), (1, 4), (2, 3, 4), (1, 1, 1)]:
            for sign, mark, value in itertools.product("abcd", "=:", range(10)):
                text = f"{sign}{mark}{value}"
                field = "abcd".index(sign)
                if field < len(shape) and value < shape[field]:
                    self.reads(shape, text, ({"=": "is", ":": "put"}[mark], field, value))
                else:
                    for whole in (text, f"(yes;{text})", f"({text}|no)", f"again({text})", f"not({text})"):
                        self.refuses(shape, whole)

    def test_not_of_what_is_no_test(self):
        for inner in ["note", "a:1", "again(yes)", "(yes;note)", "(a:1|no)", "not(note)", "not(again(a=1))",
                      "((yes;no)|(no;again(no)))"]:
            self.refuses(SHAPE, f"not({inner})")
            self.refuses(SHAPE, f"(yes;not({inner}))")
            self.refuses(SHAPE, f"again(not({inner}))")
        self.reads(SHAPE, "not((a=1;(b=0|not(yes))))",
                   ("not", ("then", ("is", 0, 1), ("either", ("is", 1, 0), ("not", YES)))))

    def test_notes(self):
        self.reads(SHAPE, "(note;(note;(note;(note;note))))", then_all([NOTE] * 5))
        self.reads(SHAPE, "again((note|(note;((note;note);note))))",
                   ("again", ("either", NOTE, ("then", NOTE, ("then", ("then", NOTE, NOTE), NOTE)))))
        self.refuses(SHAPE, "(note;(note;(note;(note;(note;note)))))")
        self.refuses(SHAPE, oracle_texts.shown(SIX_NOTES))
        self.refuses(SHAPE, "((note;(note|note));(note|(note;note)))")

    def test_brackets_within_one_another(self):
        for word in KINDS:
            for many in (1, 2, 39, 40):
                text = within(word, many)
                saying = read_saying((2,), text)
                self.assertEqual(shown_saying((2,), saying), text)
            for many in (41, 42, 60, 100, 500):
                self.refuses((2,), within(word, many))
        mixed = "(no;not(" * 20
        self.reads((2,), mixed + "yes" + "))" * 20, oracle_texts.read(mixed + "yes" + "))" * 20, False))
        self.refuses((2,), mixed + "not(yes)" + "))" * 20)
        self.refuses((2,), mixed + "(yes;no)" + "))" * 20)

    def test_brackets_beside_one_another_are_not_open_at_one_place(self):
        row = within("again", 38)
        text = f"(({row};{row})|({row};not(({within('not', 36)}|yes))))"
        self.assertEqual(oracle_texts.most_open(text), 40)
        self.assertEqual(shown_saying((2,), read_saying((2,), text)), text)
        self.refuses((2,), f"(yes;{text})")
        # More than forty brackets, never more than two of them open.
        many = "yes"
        for at in range(6):
            many = f"({many};{many})"
        self.assertEqual(many.count("("), 63)
        self.assertEqual(shown_saying((2,), read_saying((2,), many)), many)

    def test_more_than_sixty_parts(self):
        text = "a=1"
        for at in range(8):
            text = f"({text}|{text})"
        saying = read_saying((2,), text)
        self.assertEqual(count_parts(saying), 511)
        self.assertEqual(shown_saying((2,), saying), text)
        for at in range(6):
            text = f"({text};{text})"
        saying = read_saying((2,), text)
        self.assertEqual(count_parts(saying), 32767)
        self.assertEqual(saying, oracle_texts.read(text, False))

    def test_two_thousand_signs(self):
        # Sayings of 10, 20, 40 .. brackets, each beside the next one.
        text = "(yes;no)"
        while len(text) < 1000:
            text = f"({text}|{text})"
        text = text + "x" * (2000 - len(text))
        self.refuses((2,), text)
        text = "(" + "a=0" + ";" + text[:text.index("x")] + ")"
        self.reads((2,), text, oracle_texts.read(text, False))
        for sign in ["(", ")", ";", "|", "y", "a", "=", " ", "~", "1", "not(", "again(", "yes", "yes;", "(yes;", "a=1"]:
            for many in (2000 // len(sign), 2100 // len(sign)):
                self.refuses((2,), sign * many)

    def test_more_than_a_thousand_brackets(self):
        for many in (1001, 1500, 5000, 100000):
            for word in KINDS:
                self.refuses((2,), within(word, many))
            for text in ["(" * many, ")" * many, "(" * many + ")" * many, "[" * many + "]" * many, "{" * many + "}" * many,
                         "(" * many + "yes" + ")" * many, "yes" + ")" * many, "not(" * many, "again(" * many,
                         "(yes;" * many, "(" * many + "yes;no" + ")" * many]:
                self.refuses((2,), text)

    def test_what_are_no_texts(self):
        for thing in [None, True, False, 0, 1, -1, 10 ** 29, (), [], YES, ("a=1",), ["yes"], ["y", "e", "s"], [[]],
                      deep("yes", 20)] + NO_LETTERS + NO_TABLES + NO_CHANGES:
            if not isinstance(thing, str):
                before = copy.deepcopy(thing)
                self.refuses((2, 2), thing)
                self.assertEqual(thing, before)
        for thing in NO_SAYINGS:
            if thing not in ("yes", "no", "note", "a=1"):
                self.refuses((2, 2), thing)

    def test_the_same_whatever_is_asked_between(self):
        wanted = read_saying((2, 2), "again((note;a:1))")
        self.refuses((2, 2), "again((note;a:1)")
        read_saying((3,), "a=2")
        self.refuses((2,), "a=2")
        self.reads((2, 2), "again((note;a:1))", wanted)


class RefusedTest(unittest.TestCase):
    def test_no_shape_first(self):
        for shape in NO_SHAPES:
            for thing in [YES, "yes", None, "", ("maybe",), "foo", [], "(" * 2000]:
                for tell in (shown_saying, read_saying):
                    with self.assertRaises(NoShape, msg=repr(shape)):
                        tell(shape, thing)

    def test_then_no_saying(self):
        for thing in NO_SAYINGS:
            before = copy.deepcopy(thing)
            with self.assertRaises(NoSaying, msg=repr(thing)):
                shown_saying((2, 2), thing)
            self.assertEqual(thing, before)

    def test_of_another_shape(self):
        with self.assertRaises(NoSaying):
            shown_saying((2, 2), ("is", 2, 0))
        with self.assertRaises(NoSaying):
            shown_saying((2, 2), ("put", 1, 2))
        self.assertEqual(shown_saying((2, 3), ("put", 1, 2)), "b:2")


if __name__ == "__main__":
    unittest.main()
