import random
import unittest

from roadsay import errors
from roadsay.desk import Desk
from roadsay.least import trail_count
from roadsay.texts import read_saying, shown_saying

import oracle
from oracle_desk import OtherDesk
from things import CUBE, any_letter, count_on, count_parts, put_all


class DeskTest(unittest.TestCase):
    def setUp(self):
        self.desk = Desk()

    def tells(self, *rows):
        """Lines and their answers by turns: line, answer, line, answer .."""
        for line, answer in zip(rows[::2], rows[1::2]):
            told = self.desk.tell(line)
            self.assertEqual(told, answer, line)
            self.assertIs(type(told), str)

    def refuses(self, name, *lines):
        for line in lines:
            with self.assertRaises(getattr(errors, name), msg=repr(line)[:200]):
                self.desk.tell(line)


class BeginningTest(DeskTest):
    def test_shape_and_names(self):
        self.tells("names", "none", "do yes 00", "00", "do yes 11", "11", "do b:1 10", "11")
        self.refuses("NoLetter", "do yes 0", "do yes 000", "do yes 02", "do yes 20")
        self.refuses("NoUndo", "undo")

    def test_the_interface(self):
        self.assertIn("tell", vars(Desk))
        self.assertEqual(Desk.tell(self.desk, "names"), "none")


class FieldsTest(DeskTest):
    def test_answers(self):
        self.tells("fields 1", "fields 1", "fields 4", "fields 4", "fields 2 2", "fields 4", "fields 3 3 3", "fields 27",
                   "fields 4 3 2", "fields 24", "fields 1 1 1", "fields 1", "fields 4 4", "fields 16")

    def test_the_shape_is_taken(self):
        self.tells("fields 3", "fields 3", "do a:2 0", "2", "do (a:0|(a:1|a:2)) 1", "0 1 2")
        self.refuses("NoLetter", "do yes 3", "do yes 00")
        self.refuses("NoText", "do a=3 0", "do b=0 0")
        self.tells("fields 2 1 4", "fields 8", "do (c:3;a:0) 102", "003")

    def test_no_names_are_left(self):
        self.tells("let one = yes", "let one 0", "let two = a:1", "let two 0", "fields 2 2", "fields 4", "names", "none")
        self.refuses("NoName", "show one", "do two 00")

    def test_no_shape(self):
        self.tells("let one = yes", "let one 0")
        self.refuses("NoShape", "fields 0", "fields 5", "fields 999", "fields 0 2", "fields 2 0", "fields 2 5",
                     "fields 2 2 0", "fields 4 4 2", "fields 3 3 4", "fields 100 100 100", "fields 28")
        self.tells("names", "one", "do one 11", "11")


class NamesTest(DeskTest):
    def test_let(self):
        self.tells("let one = note", "let one 1", "let two = (one;one)", "let two 2", "let three = yes", "let three 0",
                   "names", "one three two", "show two", "(note;note)",
                   "let five = ((two;two)|one)", "let five 5")

    def test_names_in_sayings_are_taken_as_they_are_by_then(self):
        self.tells("let one = a:1", "let one 0", "let two = again((one;note))", "let two 1",
                   "let one = b:1", "let one 0", "show two", "again((a:1;note))", "do one 00", "01",
                   "drop one", "drop one", "show two", "again((a:1;note))", "names", "two",
                   "let one = (two|yes)", "let one 1", "show one", "(again((a:1;note))|yes)")
        self.tells("trails two 00 1", "00 10-10", "drop two", "drop two", "show one", "(again((a:1;note))|yes)")

    def test_a_name_in_its_own_saying(self):
        self.tells("let one = note", "let one 1", "let one = (one;one)", "let one 2", "show one", "(note;note)",
                   "let one = (one;(one;note))", "let one 5", "show one", "((note;note);((note;note);note))")
        self.refuses("NoText", "let one = (one;note)")
        self.refuses("NoName", "let two = (two;note)")
        self.tells("names", "one", "show one", "((note;note);((note;note);note))")

    def test_which_words_are_names(self):
        for name in ["ab", "is", "put", "then", "either", "let", "drop", "names", "none", "show", "undo", "fields", "alike",
                     "zz", "eightlet", "notes", "yess", "nott", "agains", "ye", "abcdefgh", "name", "aa", "row"]:
            self.tells(f"let {name} = a:1", f"let {name} 0", f"show {name}", "a:1", f"do {name} 00", "10",
                       f"do (b:1;{name}) 00", "11", f"do ({name}|yes) 00", "00 10", f"do again({name}) 00", "00 10",
                       f"drop {name}", f"drop {name}")

    def test_names_rising(self):
        for name in ["zz", "ab", "b" * 8, "abc", "aa", "za"]:
            self.desk.tell(f"let {name} = yes")
        self.tells("names", "aa ab abc bbbbbbbb za zz")
        self.tells("drop abc", "drop abc", "names", "aa ab bbbbbbbb za zz")

    def test_a_name_called_none(self):
        self.tells("names", "none", "let none = no", "let none 0", "names", "none", "show none", "no",
                   "drop none", "drop none", "names", "none")
        self.refuses("NoName", "show none", "drop none")

    def test_no_name(self):
        self.refuses("NoName", "show one", "drop one", "do one 00", "rests (yes;one)", "let two = one",
                     "alike yes one", "alike one yes", "come not(one) 00 00", "count again(one) 00 1")
        self.tells("names", "none")
        self.tells("let one = yes", "let one 0", "drop one", "drop one")
        self.refuses("NoName", "show one", "drop one", "do one 00")

    def test_show(self):
        for text in ["yes", "no", "note", "a=1", "b:0", "not(a=1)", "again(note)", "(yes;no)", "(yes|no)",
                     "((a=0;not((b=1|no)))|again((note;b:0)))"]:
            self.tells(f"let one = {text}", f"let one {text.count('note')}", "show one", text)

    def test_a_long_saying_is_shown_whole(self):
        # Made of names, it has more brackets within one another than a word can have.
        self.tells("let one = " + "not(" * 30 + "yes" + ")" * 30, "let one 0")
        self.tells("let two = " + "not(" * 29 + "one" + ")" * 29, "let two 0")
        self.tells("show two", "not(" * 59 + "yes" + ")" * 59)
        self.refuses("NoText", "do " + "not(" * 59 + "yes" + ")" * 59 + " 00")


class AskTest(DeskTest):
    def test_do(self):
        self.tells("do yes 01", "01", "do no 01", "none", "do note 01", "none", "do a=0 01", "01", "do a=1 01", "none",
                   "do (a:1|b:0) 01", "00 11", "do again((a:1|b:0)) 01", "00 01 10 11", "do not(a=1) 01", "01",
                   "do ((a:0|a:1);(b:0|b:1)) 11", "00 01 10 11", "do (note|a:0) 10", "00")

    def test_trails(self):
        self.tells("trails note 01 0", "none", "trails note 01 1", "01-01", "trails yes 10 4", "10",
                   "trails again((note;a:1)) 01 2", "01 01-11 01-11-11", "trails (note;b:0) 11 4", "11-10",
                   "trails no 00 0", "none", "trails (note;(a:1;(note;b:1))) 00 2", "00-10-11",
                   "trails again((note|a:1)) 00 1", "00 00-00 00-10 10 10-10")
        self.tells("fields 3", "fields 3", "trails ((a:0|(a:1|a:2));note) 1 1", "0-0 1-1 2-2")

    def test_trails_refused(self):
        self.refuses("NoCount", "trails yes 00 5", "trails yes 00 10", "trails yes 00 999", "trails no 00 200")
        self.tells("fields 3 3 3", "fields 27", "let all = " + shown_saying(CUBE, any_letter(CUBE)), "let all 0")
        self.refuses("TooMany", "trails (all;(note;(all;(note;all)))) 000 4", "trails again((all;note)) 000 2")
        self.tells("trails again((all;note)) 000 0", "000")
        self.refuses("NoCount", "trails again((all;note)) 000 5")
        self.refuses("NoLetter", "trails again((all;note)) 00 5")
        self.refuses("NoLetter", "trails again((all;note)) 003 4")

    def test_count(self):
        self.tells("count yes 00 0", "1", "count yes 00 1", "0", "count note 00 1", "1", "count no 11 0", "0",
                   "count again((note;(a:0|a:1))) 00 10", "1024", "count again((note;(a:0|a:1))) 00 200", str(2 ** 200))
        self.refuses("NoCount", "count yes 00 201", "count yes 00 999", "count no 00 300")

    def test_numbers_of_hundred_figures(self):
        self.tells("fields 3 3 3", "fields 27", "let all = " + shown_saying(CUBE, any_letter(CUBE)), "let all 0",
                   "count again((note;all)) 012 200", str(27 ** 200), "count again((note;all)) 012 199", str(27 ** 199))
        self.assertEqual(trail_count(CUBE, ("again", ("then", ("note",), any_letter(CUBE))), (0, 1, 2), 200), 27 ** 200)

    def test_rests(self):
        self.tells("rests yes", "4", "rests no", "0", "rests note", "8", "rests (note;a:1)", "6", "rests a:1", "2",
                   "rests again(note)", "4", "rests b=0", "2", "fields 1", "fields 1", "rests note", "2",
                   "rests (note;note)", "3", "rests again(note)", "1")

    def test_alike(self):
        self.tells("alike yes yes", "alike", "alike yes not(no)", "alike", "alike note (note;yes)", "alike",
                   "alike yes no", "00 00", "alike no yes", "00 00", "alike yes b=1", "00 00", "alike yes b=0", "01 01",
                   "alike again(note) (yes|note)", "00 00-00-00", "alike note (note;a:1)", "00 00-00",
                   "alike (a=1;note) (a=1;(note;b:1))", "10 10-10", "alike again(a:1) (yes|a:1)", "alike",
                   "alike (a:0;a:1) a:1", "alike")

    def test_within(self):
        self.tells("within yes yes", "yes", "within no yes", "yes", "within yes no", "00 00", "within a=1 yes", "yes",
                   "within yes a=1", "00 00", "within again(note) (yes|note)", "00 00-00-00",
                   "within (yes|note) again(note)", "yes", "within (b=1;note) (a=1;note)", "01 01-01")

    def test_apart(self):
        self.tells("apart yes no", "yes", "apart yes yes", "00 00", "apart a=0 a=1", "yes", "apart a=1 b=1", "11 11",
                   "apart yes note", "yes", "apart again(note) again((note;note))", "00 00",
                   "apart (note;again(note)) (note;(note;again((note;note))))", "00 00-00-00",
                   "apart a:0 a:1", "yes", "apart a:0 b:0", "00 00")

    def test_come(self):
        self.tells("come yes 00 00", "row 00", "come no 01 01", "row 01", "come a:1 00 10", "row 00-10",
                   "come (a:1|b:1) 00 11", "row 00-01-11", "come a:1 00 11", "shut 2", "come a:1 10 00", "shut 1",
                   "come note 00 01", "shut 1", "come (a:1|b:1) 00 00", "row 00", "come (a:1|b:1) 11 00", "shut 1",
                   "come (a:1|b:1) 01 00", "shut 2", "come ((a=0;a:1)|(a=1;(a:0;b:1))) 00 01", "row 00-10-01")
        # From 001 on up to 200, the first letter with a=2: nineteen letters in all, the first one left out.
        self.tells("fields 3 3 3", "fields 27", "let on = " + shown_saying(CUBE, count_on(CUBE)), "let on 0",
                   "come on 000 010", "row 000-001-002-010", "come (not(a=2);on) 001 000", "shut 18")

    def test_names_in_each_place(self):
        self.tells("let go = a:1", "let go 0", "let up = b:1", "let up 0",
                   "do (go;up) 00", "11", "trails (go|up) 00 0", "01 10", "count (go|up) 00 0", "2",
                   "rests (go;up)", "1", "alike go up", "00 01", "alike (go;up) (up;go)", "alike",
                   "within go (go|up)", "yes", "apart go up", "11 11", "come (go|up) 00 11", "row 00-01-11",
                   "alike go go", "alike", "let go = (go;up)", "let go 0", "do go 00", "11", "alike go up", "00 01")


class SixtyPartsTest(DeskTest):
    def test_sixty_parts_and_one_more(self):
        self.tells("let ten = " + "again(" * 9 + "yes" + ")" * 9, "let ten 0")
        self.tells("let half = (ten;(ten;not(not(not(not(not(not(not(yes)))))))))", "let half 0")
        self.assertEqual(count_parts(read_saying((2, 2), self.desk.tell("show half"))), 30)
        self.tells("rests again(again(again(again(half))))", "4")
        self.refuses("NoText", "rests (half;half)", "let all = (half|half)")
        self.tells("let less = (ten;(ten;not(not(not(not(not(not(yes))))))))", "let less 0")
        # half lets nothing by, as it has seven nots.
        self.tells("rests (half;less)", "0", "let all = (half;less)", "let all 0", "rests all", "0", "rests less", "4")
        self.assertEqual(count_parts(read_saying((2, 2), self.desk.tell("show all"))), 60)
        self.refuses("NoText", "rests again(all)", "let more = again(all)", "let all = not(all)", "do (all;yes) 00",
                     "alike all again(all)")
        self.tells("names", "all half less ten")

    def test_sixty_parts_without_names(self):
        # A row of thens of thirty sayings has 59 parts.
        row = "(yes;" * 29 + "yes" + ")" * 29
        self.tells(f"rests {row}", "4", f"rests again({row})", "4")
        self.refuses("NoText", f"rests again(again({row}))", f"rests (no;{row})")

    def test_a_great_many_parts(self):
        self.tells("let ab = " + "(yes;" * 29 + "yes" + ")" * 29, "let ab 0")
        text = "ab"
        for at in range(8):
            text = f"({text};{text})"
        self.refuses("NoText", f"rests {text}", f"let ab = {text}")
        self.tells("show ab", "(yes;" * 29 + "yes" + ")" * 29)

    def test_notes(self):
        self.tells("let two = (note;note)", "let two 2", "let five = (two;(two;note))", "let five 5",
                   "rests five", "24")
        self.refuses("NoText", "rests (two;(two;two))", "let six = (five|note)", "rests (five;five)")
        self.tells("names", "five two")

    def test_not_of_what_is_no_test(self):
        self.tells("let go = a:1", "let go 0", "let is = a=1", "let is 0", "let at = again(is)", "let at 0",
                   "let nn = note", "let nn 1", "do not(is) 00", "00", "do not((is|not(is))) 00", "none")
        self.refuses("NoText", "do not(go) 00", "do not(at) 00", "do not(nn) 00", "do (yes;not((is;go))) 00",
                     "let one = not(not(nn))")
        self.tells("names", "at go is nn")


class UndoTest(DeskTest):
    def test_after_each_kind_of_line(self):
        self.tells("let one = a:1", "let one 0", "undo", "undo 0", "names", "none")
        self.refuses("NoUndo", "undo")
        self.tells("let one = a:1", "let one 0", "drop one", "drop one", "names", "none", "undo", "undo 1", "names", "one",
                   "show one", "a:1", "undo", "undo 0", "names", "none")
        self.tells("let one = a:1", "let one 0", "let one = b:1", "let one 0", "undo", "undo 1", "show one", "a:1",
                   "undo", "undo 0")
        self.tells("let one = a:1", "let one 0", "fields 3", "fields 3", "names", "none", "do yes 2", "2",
                   "undo", "undo 1", "names", "one", "show one", "a:1", "do one 00", "10")
        self.refuses("NoLetter", "do yes 2")
        self.tells("undo", "undo 0", "names", "none")
        self.refuses("NoUndo", "undo", "undo")

    def test_until_nothing_is_left_and_once_more(self):
        for at in range(20):
            self.tells(f"let on{'abcdefghijklmnopqrst'[at]} = yes", f"let on{'abcdefghijklmnopqrst'[at]} 0")
        for left in range(19, -1, -1):
            self.tells("undo", f"undo {left}")
        self.tells("names", "none")
        self.refuses("NoUndo", "undo", "undo")
        self.tells("let one = yes", "let one 0", "undo", "undo 0")
        self.refuses("NoUndo", "undo")

    def test_lines_that_leave_both_as_they_were(self):
        self.tells("fields 2 2", "fields 4")
        self.refuses("NoUndo", "undo")
        self.tells("let one = (a:1;b:1)", "let one 0", "let one = (a:1;b:1)", "let one 0", "let one = one", "let one 0",
                   "let two = b:1", "let two 0", "let one = (a:1;two)", "let one 0", "undo", "undo 1", "undo", "undo 0")
        self.refuses("NoUndo", "undo")
        self.tells("fields 3", "fields 3", "fields 3", "fields 3", "undo", "undo 0", "do yes 11", "11")
        self.refuses("NoUndo", "undo")

    def test_the_same_shape_with_names_is_another_one(self):
        self.tells("let one = yes", "let one 0", "fields 2 2", "fields 4", "names", "none", "undo", "undo 1",
                   "names", "one", "undo", "undo 0")

    def test_a_saying_that_only_does_the_same_is_another_one(self):
        self.tells("let one = yes", "let one 0", "let one = not(no)", "let one 0", "undo", "undo 1", "show one", "yes")

    def test_there_and_back_are_two_lines(self):
        self.tells("let one = yes", "let one 0", "drop one", "drop one", "let one = yes", "let one 0",
                   "undo", "undo 2", "names", "none", "undo", "undo 1", "names", "one", "undo", "undo 0")
        self.tells("fields 3", "fields 3", "fields 2 2", "fields 4", "undo", "undo 1", "do yes 2", "2", "undo", "undo 0")

    def test_asking_and_refused_lines_are_no_such_lines(self):
        self.tells("let one = note", "let one 1")
        for line in ["names", "show one", "do one 00", "trails one 00 1", "count one 00 1", "rests one", "alike one one",
                     "within one yes", "apart one yes", "come one 00 01"]:
            self.desk.tell(line)
        self.refuses("NoLine", "let one", "fields", "drop", "undo 1", "undo undo", "redo")
        self.refuses("NoText", "let one = (", "let two = c=1", "let one = not(one)")
        self.refuses("NoName", "let one = two", "drop two", "show two")
        self.refuses("NoShape", "fields 5", "fields 3 3 4")
        self.tells("undo", "undo 0", "names", "none")
        self.refuses("NoUndo", "undo")

    def test_undo_is_no_such_line_itself(self):
        self.tells("let one = yes", "let one 0", "let two = no", "let two 0", "undo", "undo 1", "let two = note", "let two 1",
                   "undo", "undo 1", "names", "one", "undo", "undo 0")
        self.refuses("NoUndo", "undo")

    def test_names_stay_what_they_were(self):
        self.tells("let one = a:1", "let one 0", "let two = (one;b:1)", "let two 0", "undo", "undo 1", "undo", "undo 0")
        self.refuses("NoName", "let two = (one;b:1)")
        self.tells("let one = b:0", "let one 0", "let two = (one;b:1)", "let two 0", "show two", "(b:0;b:1)",
                   "drop one", "drop one", "undo", "undo 2", "show two", "(b:0;b:1)", "names", "one two")

    def test_many_lines(self):
        for at in range(100):
            first, second = at % 4 + 1, at // 4 % 4 + 1
            self.tells(f"fields {first} {second}", f"fields {first * second}", "let one = note", "let one 1",
                       "let two = (one|(one;b:0))", "let two 2", "let one = (two;two)", "let one 4", "drop two", "drop two")
        for at in reversed(range(100)):
            self.tells("show one", "((note|(note;b:0));(note|(note;b:0)))", "undo", f"undo {5 * at + 4}",
                       "names", "one two", "undo", f"undo {5 * at + 3}", "show one", "note", "undo", f"undo {5 * at + 2}",
                       "undo", f"undo {5 * at + 1}", "names", "none", "undo", f"undo {5 * at}")
        self.refuses("NoUndo", "undo")
        self.tells("names", "none", "do yes 11", "11")


class BesideTest(unittest.TestCase):
    def test_two_desks(self):
        one, other = Desk(), Desk()
        self.assertEqual(one.tell("let one = a:1"), "let one 0")
        self.assertEqual(other.tell("names"), "none")
        self.assertEqual(other.tell("fields 3"), "fields 3")
        self.assertEqual(one.tell("do one 00"), "10")
        self.assertEqual(other.tell("let one = a:2"), "let one 0")
        self.assertEqual(one.tell("show one"), "a:1")
        self.assertEqual(other.tell("show one"), "a:2")
        self.assertEqual(one.tell("undo"), "undo 0")
        self.assertEqual(other.tell("names"), "one")
        self.assertEqual(other.tell("undo"), "undo 1")
        self.assertEqual(Desk().tell("do yes 11"), "11")
        with self.assertRaises(errors.NoUndo):
            one.tell("undo")
        self.assertEqual(other.tell("undo"), "undo 0")


class DrawnTest(unittest.TestCase):
    """Lines drawn by a seeded row of chances, at the desk and at a second one side by side."""

    NAMES = ["one", "two", "go", "is", "longname"]
    NO_NAMES = ["a", "yes", "again", "toolongname", "One", "x1", ""]
    TEXTS = ["yes", "no", "note", "a=0", "a=1", "b:1", "c:1", "a:2", "a=9", "one", "two", "go", "is", "longname", "other",
             "(one;note)", "(go|two)", "again((one;two))", "not(is)", "not(one)", "(is;(note;b:0))", "(a=1;go)",
             "again(again(two))", "(two;two)", "((one|go);(two;is))", "(other;c:3)", "(d=1;other)", "not(note)"]
    NO_TEXTS = ["x", "(one", "one)", "(one;two", "one;two", "not", "()", "a==1", "(one)", "(one two)", "", "One"]
    LETTERS = ["00", "01", "10", "11", "0", "1", "2", "000", "012", "12", "21"]
    NO_LETTERS = ["0-0", "x", "(0,0)", "03", "30", "0000", "", "-1"]
    NUMBERS = ["0", "1", "2", "3", "4", "5", "200", "201"]
    NO_NUMBERS = ["00", "01", "1000", "-1", "x", "", "+1", "1.0"]
    FORMS = ["fields N", "fields N N", "fields N N N", "let NAME = X", "let NAME = X", "let NAME = X", "let NAME = X",
             "drop NAME", "names", "show NAME", "do X L", "trails X L N", "count X L N", "rests X", "alike X X", "within X X",
             "apart X X", "come X L L", "undo", "undo"]

    def line(self, chance):
        words = chance.choice(self.FORMS).split(" ")
        rare = chance.random()
        if rare < 0.02:
            words.insert(chance.randrange(len(words) + 1), chance.choice(["", "yes", "0", "undo"]))
        elif rare < 0.04:
            words.pop(chance.randrange(len(words)))
        elif rare < 0.05:
            words[0] = chance.choice(["", "Undo", "fieldss", "set"])
        drawn = {"N": (self.NUMBERS, self.NO_NUMBERS), "NAME": (self.NAMES, self.NO_NAMES),
                 "X": (self.TEXTS, self.NO_TEXTS), "L": (self.LETTERS, self.NO_LETTERS)}
        return " ".join(chance.choice(drawn[word][chance.random() < 0.06]) if word in drawn else word for word in words)

    def test_many_lines(self):
        found = {}
        for seed in range(25):
            chance = random.Random(seed)
            desk, other = Desk(), OtherDesk()
            for at in range(300):
                line = self.line(chance)
                try:
                    told = "answer", desk.tell(line)
                except errors.SayError as error:
                    told = "refused", type(error).__name__
                self.assertEqual(told, other.tell(line), (seed, at, line))
                key = (line.split(" ")[0], told[1] if told[0] == "refused" else "answer")
                found[key] = found.get(key, 0) + 1
        for form in self.FORMS:
            self.assertIn((form.split(" ")[0], "answer"), found)
        refused = {key[1] for key in found}
        self.assertEqual(refused, {"answer", "NoLine", "NoShape", "NoName", "NoLetter", "NoCount", "NoText", "NoUndo"})


if __name__ == "__main__":
    unittest.main()
