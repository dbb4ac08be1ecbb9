import unittest

from roadsay import errors
from roadsay.desk import Desk
from roadsay.texts import shown_saying

import oracle_texts
from oracle_desk import OtherDesk
from things import CUBE, NO_CHANGES, NO_LETTERS, NO_SAYINGS, NO_SHAPES, NO_TABLES, any_letter


class RefusedTest(unittest.TestCase):
    """A desk with two names, of which the second one stood for something else, and one that was dropped."""

    LINES = ["let one = (note;a:1)", "let two = yes", "let two = (one|b=1)", "let gone = no", "drop gone"]

    def setUp(self):
        self.desk = Desk()
        for line in self.LINES:
            self.desk.tell(line)

    def tearDown(self):
        """Whatever was refused, nothing was changed, and each line can still be undone."""
        told = [self.desk.tell(line) for line in ("names", "show one", "show two", "do yes 11")]
        self.assertEqual(told, ["one two", "(note;a:1)", "((note;a:1)|b=1)", "11"])
        told = [self.desk.tell(line) for line in ("undo", "names", "undo", "undo", "show two", "undo", "undo", "names")]
        self.assertEqual(told, ["undo 4", "gone one two", "undo 3", "undo 2", "yes", "undo 1", "undo 0", "none"])
        with self.assertRaises(errors.NoUndo):
            self.desk.tell("undo")

    def refuses(self, name, *lines):
        for line in lines:
            with self.assertRaises(errors.SayError, msg=repr(line)[:200]) as caught:
                self.desk.tell(line)
            self.assertEqual(type(caught.exception).__name__, name, repr(line)[:200])


class NoLineTest(RefusedTest):
    RIGHT = ["fields 2", "fields 2 3", "fields 2 3 4", "let new = yes", "drop one", "names", "show one", "do one 00",
             "trails one 00 2", "count one 00 2", "rests one", "alike one two", "within one two", "apart one two",
             "come one 00 01", "undo"]

    def test_no_words(self):
        self.refuses("NoLine", "", " ", "  ", "   ", " " * 2000)

    def test_other_words(self):
        self.refuses("NoLine", "name", "Names", "NAMES", "namess", "redo", "set", "yes", "note", "one", "two", "none", "x",
                     "0", "=", "one = yes", "field 2", "Fields 2", "lets new = yes", "Let new = yes", "shows one", "trail one 00 1",
                     "does one 00", "counts one 00 1", "rest one", "like one two", "come", "(names)", "names;", "undo.",
                     "quit", "help", "exit", "undo undo", "names names", "fields2", "undo\n", "names\t", "\nnames")

    def test_words_too_few_or_too_many(self):
        for line in self.RIGHT:
            words = line.split(" ")
            for at in range(len(words)):
                fewer = " ".join(words[:at] + words[at + 1:])
                # With one number less it is still a line of fields.
                if not (words[0] == "fields" and at > 0 and len(words) > 2):
                    self.refuses("NoLine", fewer)
            for more in ("one", "00", "1", "=", "yes"):
                for at in range(len(words) + 1):
                    longer = " ".join(words[:at] + [more] + words[at:])
                    if not (words[0] == "fields" and more == "1" and 1 <= at and len(words) < 4):
                        self.refuses("NoLine", longer)

    def test_blanks(self):
        for line in self.RIGHT:
            self.refuses("NoLine", " " + line, line + " ", "  " + line, line + "  ", " " + line + " ")
            words = line.split(" ")
            for at in range(1, len(words)):
                self.refuses("NoLine", " ".join(words[:at]) + "  " + " ".join(words[at:]),
                             " ".join(words[:at]) + "   " + " ".join(words[at:]))
        self.refuses("NoLine", "do  00", "rests ", "alike one ", "alike  one", "let new =  ", "let  = yes", "come one  00",
                     "count  00 1", "count one  1", "do one ", "trails one 00 ")

    def test_names_that_are_none(self):
        for name in ["a", "z", "yes", "no", "note", "not", "again", "abcdefghi", "toolongname", "One", "oNe", "ONE", "on1",
                     "1on", "o_e", "o-e", "one:", "(one)", "=", "0", "00", "a=1", "not(one)", "x" * 2000]:
            self.refuses("NoLine", f"let {name} = yes", f"drop {name}", f"show {name}", f"let {name} = (", f"let {name} = x")

    def test_the_sign_of_let(self):
        for sign in ["==", ":", ":=", "is", "one", "yes", "-", "=yes"]:
            self.refuses("NoLine", f"let new {sign} yes")
        self.refuses("NoLine", "let new=yes", "let new =yes", "let new= yes", "let = new yes", "let new yes =")

    def test_numbers_that_are_none(self):
        for number in ["00", "01", "000", "001", "010", "1000", "0000", "9999", "12345", "-1", "-0", "+1", "1.0", "1e1", "x",
                       "one", "a", "1a", "a1", "=", "1,", "0x1", "\u0661", "\xb2", "1_0", "9" * 2000]:
            self.refuses("NoLine", f"fields {number}", f"fields 2 {number}", f"fields {number} 2", f"fields 2 2 {number}",
                         f"trails one 00 {number}", f"count one 00 {number}", f"trails ( 09 {number}",
                         f"count gone xx {number}")

    def test_what_is_no_text(self):
        for line in [None, True, False, 0, 1, 10 ** 29, (), [], ["names"], ("names",), ("undo",), ["undo"]]:
            self.refuses("NoLine", line)
        for line in NO_SHAPES + NO_LETTERS + NO_SAYINGS + NO_CHANGES + NO_TABLES:
            self.refuses("NoLine", line)

    def test_ahead_of_all_other_refusals(self):
        self.refuses("NoLine", "fields 9 09", "fields 09 9", "let One = gone", "let one = gone yes", "trails ( xx 05",
                     "count gone 99 1000", "do ( 00 11", "come gone 99", "alike (", "show gone gone", "drop gone ",
                     "undo  ", "trails one 00 4 ", "alike ( gone  ")


class OthersTest(RefusedTest):
    def test_no_shape(self):
        self.refuses("NoShape", "fields 0", "fields 5", "fields 10", "fields 999", "fields 0 0", "fields 1 0", "fields 0 1",
                     "fields 5 1", "fields 1 1 0", "fields 4 4 2", "fields 3 3 4", "fields 4 4 4", "fields 27", "fields 7 4")

    def test_no_name(self):
        self.refuses("NoName", "drop gone", "show gone", "drop ab", "show names", "do gone 00", "rests (one;gone)",
                     "trails again(gone) 00 1", "count not(gone) 00 1", "alike gone one", "alike one gone", "within gone one",
                     "within one gone", "apart gone one", "apart one gone", "come gone 00 00", "let one = gone",
                     "let gone = gone", "let new = (one;(two|new))", "rests ((gone;one)|other)", "rests notone", "rests yesno")

    def test_no_letter(self):
        for word in ["0", "1", "000", "02", "20", "99", "0-0", "00-00", "ab", "one", "yes", "(0,0)", "-1", "0a", "=", "00,",
                     "\u0660\u0660", "0" * 2000, "("]:
            self.refuses("NoLetter", f"do one {word}", f"trails one {word} 1", f"count one {word} 1", f"come one {word} 00",
                         f"come one 00 {word}", f"come one {word} {word}")

    def test_no_count(self):
        self.refuses("NoCount", "trails one 00 5", "trails one 00 6", "trails no 00 99", "trails yes 11 999",
                     "count one 00 201", "count no 11 202", "count two 01 999")

    def test_too_many(self):
        desk = Desk()
        desk.tell("fields 3 3 3")
        desk.tell("let all = " + shown_saying(CUBE, any_letter(CUBE)))
        for line in ["trails again((all;note)) 000 2", "trails (note;(all;(note;all))) 111 4"]:
            with self.assertRaises(errors.TooMany):
                desk.tell(line)
        self.assertEqual(desk.tell("names"), "all")
        self.assertEqual(desk.tell("undo"), "undo 1")

    def test_no_undo(self):
        desk = Desk()
        for at in range(3):
            with self.assertRaises(errors.NoUndo):
                desk.tell("undo")
        self.assertEqual(desk.tell("names"), "none")


class NoTextTest(RefusedTest):
    WRONG = ["(", ")", "()", "(one)", "(one;two", "one;two)", "one;two", "(one;two;one)", "one(two)", "not", "again", "not()",
             "not-one", "again(one;two)", "(one;)", "(;one)", "x", "One", "one1", "toolongname", "a", "a=", "a=12", "d=1", "=",
             "a==1", "ab=1", "one=1", "one:0", "(not;one)", "0", "00", "yes(", "one)", "(one|two))", "((one|two)", "one\t",
             "[one]", "{", "~", "!", "one,two", "1", "'yes'"]

    def test_what_is_not_written_so(self):
        for word in self.WRONG:
            self.refuses("NoText", f"let new = {word}", f"do {word} 00", f"trails {word} 00 1", f"count {word} 00 1",
                         f"rests {word}", f"alike {word} one", f"alike one {word}", f"within {word} one",
                         f"within one {word}", f"apart {word} one", f"apart one {word}", f"come {word} 00 00")

    def test_what_is_no_saying_of_the_shape(self):
        for word in ["c=0", "a=2", "b:2", "c:9", "a=9", "not(one)", "not(note)", "not(again(yes))", "not(a:1)",
                     "(two;c=1)", "again(not((yes|one)))", "(one;(one;(one;(two;(two;two)))))",
                     "((two|two);((two|two);(two|two)))"]:
            self.refuses("NoText", f"let new = {word}", f"do {word} 00", f"rests {word}", f"alike {word} one",
                         f"alike one {word}", f"come {word} 00 00", f"trails {word} 99 999", f"count {word} 99 999")

    def test_no_text_then_no_name_then_no_text(self):
        # Not written so, with a name that stands for nothing.
        self.refuses("NoText", "rests (gone", "rests (gone;x)", "rests gone;gone", "rests (d=1;gone)", "rests (gone;a=12)",
                     "rests again(gone;gone)", "rests not(gone", "rests (gone)", "rests gone(", "rests (gone;toolongname)")
        # Written so, with such a name, and no saying of the shape.
        self.refuses("NoName", "rests (gone;c=1)", "rests (a=9;gone)", "rests not((note;gone))", "rests (b:7|gone)",
                     "rests (one;(one;(one;(one;(one;(one;gone))))))", "rests again(not(again(gone)))")
        # No such name, and no saying of the shape.
        self.refuses("NoText", "rests (one;c=1)", "rests (a=9;two)", "rests not((note;one))")

    def test_parts_come_behind_names(self):
        row = "(yes;" * 35 + "yes" + ")" * 35
        self.refuses("NoText", f"rests {row}")
        self.refuses("NoName", f"rests ({row};gone)", f"rests (gone|{row})", f"let new = (gone;{row})")
        self.refuses("NoText", f"rests ({row};x)", f"rests (gone;{row};{row})")

    def test_brackets_within_one_another(self):
        for many, name in [(1, "one"), (39, "one"), (40, "one")]:
            self.assertEqual(self.desk.tell("alike " + "again(" * many + name + ")" * many + " again(one)"), "alike")
        for many in (41, 42, 100, 300):
            self.refuses("NoText", "rests " + "again(" * many + "one" + ")" * many,
                         "rests " + "again(" * many + "gone" + ")" * many)
        self.refuses("NoName", "rests " + "again(" * 40 + "gone" + ")" * 40)

    def test_only_the_brackets_of_the_word_itself_count(self):
        desk = Desk()
        desk.tell("let deep = " + "again(" * 29 + "yes" + ")" * 29)
        self.assertEqual(desk.tell("rests " + "again(" * 30 + "deep" + ")" * 30), "4")
        desk.tell("let deep = " + "again(" * 30 + "deep" + ")" * 30)
        self.assertEqual(desk.tell("show deep"), "again(" * 59 + "yes" + ")" * 59)
        with self.assertRaises(errors.NoText):
            desk.tell("rests again(deep)")

    def test_more_than_a_thousand_brackets(self):
        for many in (1001, 3000, 50000):
            for word in ["(" * many, ")" * many, "(" * many + ")" * many, "not(" * many + "yes" + ")" * many,
                         "again(" * many + "gone" + ")" * many, "(yes;" * many + "yes" + ")" * many,
                         "(" * many + "yes" + ";no)" * many, "[" * many + "]" * many]:
                self.refuses("NoText", f"let new = {word}", f"rests {word}", f"alike one {word}", f"do {word} 99")
                self.refuses("NoLetter", f"do one {word}", f"come one 00 {word}", f"trails one {word} 9")
                self.refuses("NoLine", word, f"show {word}", f"drop {word}", f"fields {word}", f"count one 00 {word}",
                             f"let {word} = yes", f"names {word}", f"{word} one")


class FirstWordTest(RefusedTest):
    def test_of_several_wrong_words_the_first_one(self):
        self.refuses("NoText", "do ( 99", "trails c=1 99 999", "count not(one) 99 999", "alike ( gone", "alike c=1 gone",
                     "within x (", "apart (gone gone", "come ( 99 99")
        self.refuses("NoName", "do gone 99", "trails gone 99 999", "count (gone;c=1) 99 999", "alike gone (", "alike gone c=1",
                     "within gone x", "apart gone (gone", "come gone 99 99")
        self.refuses("NoLetter", "do one 99", "trails one 99 999", "count one 99 999", "come one 99 99", "come one 00 99",
                     "come one 99 00")
        self.refuses("NoCount", "trails one 00 999", "count one 00 999")

    def test_as_at_the_second_desk(self):
        other = OtherDesk()
        for line in self.LINES:
            other.tell(line)
        wanted = set()
        for form in ["do {} {}", "trails {} {} 5", "count {} {} 201", "come {} {} {}", "alike {} {}", "within {} {}",
                     "apart {} {}"]:
            for first in ["(", "gone", "c=1", "(gone;c=1)", "99"]:
                for second in ["99", "(", "gone", "c=1", "(gone;x)"]:
                    line = form.format(first, second, second)
                    kind, told = other.tell(line)
                    self.assertEqual(kind, "refused")
                    wanted.add(told)
                    self.refuses(told, line)
        self.assertEqual(wanted, {"NoText", "NoName"})
        self.assertIsNone(oracle_texts.read("(gone;x)", True))


if __name__ == "__main__":
    unittest.main()
