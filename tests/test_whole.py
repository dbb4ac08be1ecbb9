"""Points 1 to 4 over the whole program: each function that the interface lists, with right and wrong things."""

import ast
import copy
import importlib
import inspect
import pathlib
import subprocess
import sys
import unittest

from roadsay import comings, desk, errors, least, letters, machines, pairs, sayings, tables, texts, trails, turned

from things import (CUBE, LAST, NO_COUNTS, NO_LETTERS, NO_LISTS, NO_SAYINGS, NO_SHAPES, NO_TABLES, SIX_NOTES,
                    any_letter, count_on, count_parts, deep, lists_in, then_all)

YES, NO, NOTE = ("yes",), ("no",), ("note",)
SHAPE = (2, 2)
ONE = ("again", ("then", ("either", ("put", 0, 1), ("put", 1, 0)), NOTE))
OTHER = ("either", ("not", ("is", 0, 1)), ("then", NOTE, ("put", 1, 1)))
TEST = ("either", ("is", 0, 1), ("not", ("is", 1, 0)))
TABLE = [((0, -1), [(-1, 1), (1, -1)]), ((-1, -1), [(0, 0), (1, 1)])]
SOME, MORE = [(1, 1), (0, 0), (1, 1)], [(0, 1)]

# Each function of the interface with the kinds of its arguments.
INTERFACE = {
    letters.is_shape: ("thing",),
    letters.letters_of: ("shape",),
    sayings.is_saying: ("shape", "thing"),
    sayings.is_test: ("shape", "thing"),
    machines.machine_of: ("shape", "saying"),
    trails.trails_of: ("shape", "saying", "letter", "most"),
    trails.does: ("shape", "saying"),
    pairs.pairs_of: ("shape", "saying", "saying"),
    pairs.parted_at: ("shape", "saying", "saying"),
    pairs.judge_pairs: ("shape", "saying", "saying", "thing"),
    pairs.within_at: ("shape", "saying", "saying"),
    pairs.shared_at: ("shape", "saying", "saying"),
    least.least_machine: ("shape", "saying"),
    least.trail_count: ("shape", "saying", "letter", "many"),
    turned.turned_saying: ("shape", "saying"),
    turned.test_letters: ("shape", "test"),
    turned.test_of: ("shape", "letters"),
    tables.is_table: ("shape", "thing"),
    tables.table_does: ("shape", "table"),
    tables.spare_rules: ("shape", "table"),
    tables.table_of: ("shape", "saying"),
    tables.judge_table: ("shape", "saying", "thing"),
    tables.saying_of: ("shape", "table"),
    comings.come_to: ("shape", "saying", "letters", "letters"),
    comings.judge_come: ("shape", "saying", "letters", "letters", "thing"),
    texts.shown_saying: ("shape", "saying"),
    texts.read_saying: ("shape", "text"),
}
TRUTHS = [letters.is_shape, sayings.is_saying, sayings.is_test, pairs.judge_pairs, tables.is_table, tables.judge_table,
          comings.judge_come]

RIGHT = {
    "shape": [SHAPE],
    "saying": [ONE, OTHER],
    "test": [TEST],
    "letter": [(1, 0)],
    "letters": [SOME, MORE],
    "most": [3],
    "many": [7],
    "table": [TABLE],
    "text": ["again((note;(a:1|not(b=0))))"],
    "thing": [TABLE],
}
# Wrong things for each kind, and the refusal that is due.
NO_TESTS = NO_SAYINGS + [NOTE, ("put", 0, 0), ("again", YES), ("then", YES, NOTE)]
NO_TEXTS = ["", " ", "maybe", "(", "yes ", "a=2", "c=0", "not(note)", "(yes)", "(" * 1500 + ")" * 1500,
            "not(" * 41 + "yes" + ")" * 41, None, True, 1, (), [], YES, ["yes"], deep("yes", 20)]
WRONG = {
    "shape": ("NoShape", NO_SHAPES),
    "saying": ("NoSaying", NO_SAYINGS),
    "test": ("NoTest", NO_TESTS),
    "letter": ("NoLetter", NO_LETTERS),
    "letters": ("NoLetter", NO_LISTS),
    "most": ("NoCount", NO_COUNTS + [5, 6, 200]),
    "many": ("NoCount", NO_COUNTS),
    "table": ("NoTable", NO_TABLES),
    "text": ("NoText", NO_TEXTS),
}
# Some texts of more than a thousand brackets within one another.
BRACKETS = ["(" * 1200 + ")" * 1200, "[" * 1200 + "]" * 1200, "not(" * 1200 + "yes" + ")" * 1200,
            "(yes;" * 1200 + "no" + ")" * 1200, "((" * 5000]


def right_things(kinds):
    """Own copies of right things for the kinds, the next one of a kind where it stands again."""
    return [copy.deepcopy(RIGHT[kind][kinds[:at].count(kind)]) for at, kind in enumerate(kinds)]


class InterfaceTest(unittest.TestCase):
    def test_all_that_is_listed_is_there(self):
        listed = {
            "letters": "is_shape(thing), letters_of(shape)",
            "sayings": "is_saying(shape, thing), is_test(shape, thing)",
            "machines": "machine_of(shape, saying)",
            "trails": "trails_of(shape, saying, letter, most), does(shape, saying)",
            "pairs": "pairs_of(shape, one, other), parted_at(shape, one, other), judge_pairs(shape, one, other, thing),"
                     " within_at(shape, one, other), shared_at(shape, one, other)",
            "least": "least_machine(shape, saying), trail_count(shape, saying, letter, many)",
            "turned": "turned_saying(shape, saying), test_letters(shape, test), test_of(shape, letters)",
            "tables": "is_table(shape, thing), table_does(shape, table), spare_rules(shape, table),"
                      " table_of(shape, saying), judge_table(shape, saying, thing), saying_of(shape, table)",
            "comings": "come_to(shape, saying, starts, goals), judge_come(shape, saying, starts, goals, thing)",
            "texts": "shown_saying(shape, saying), read_saying(shape, text)",
        }
        found = []
        for name, functions in listed.items():
            module = importlib.import_module(f"roadsay.{name}")
            for call in ast.parse(f"[{functions}]").body[0].value.elts:
                function = getattr(module, call.func.id)
                self.assertEqual(function.__module__, module.__name__)
                self.assertEqual(list(inspect.signature(function).parameters), [argument.id for argument in call.args])
                found.append(function)
        self.assertEqual(set(found), set(INTERFACE))
        self.assertIn("tell", vars(desk.Desk))
        self.assertEqual(list(inspect.signature(desk.Desk.tell).parameters), ["self", "line"])

    def test_each_module_can_be_imported_first(self):
        folder = pathlib.Path(texts.__file__).resolve().parent
        for path in sorted(folder.glob("*.py")):
            name = "roadsay" if path.stem == "__init__" else f"roadsay.{path.stem}"
            subprocess.run([sys.executable, "-W", "error", "-B", "-c", f"import {name}"], check=True, cwd=folder.parent)


class NothingIsChangedTest(unittest.TestCase):
    def test_what_is_handed_in_stays(self):
        for function, kinds in INTERFACE.items():
            handed = right_things(kinds)
            before = copy.deepcopy(handed)
            told = function(*handed)
            self.assertEqual(handed, before, function)
            spoil_all(told)
            self.assertEqual(handed, before, function)

    def test_what_is_refused_stays(self):
        for function, kinds in INTERFACE.items():
            for at, kind in enumerate(kinds):
                for thing in WRONG.get(kind, ("", []))[1]:
                    handed = right_things(kinds)
                    handed[at] = copy.deepcopy(thing)
                    before = copy.deepcopy(handed)
                    with self.assertRaises(errors.SayError):
                        function(*handed)
                    self.assertEqual(handed, before, function)

    def test_what_anything_is_stays(self):
        for function in TRUTHS:
            for thing in NO_SHAPES + NO_SAYINGS + NO_LISTS + NO_TABLES:
                handed = right_things(INTERFACE[function][:-1]) + [copy.deepcopy(thing)]
                before = copy.deepcopy(handed)
                function(*handed)
                self.assertEqual(handed, before, function)

    def test_told_lists_are_the_askers_own(self):
        for function, kinds in INTERFACE.items():
            told, kept = function(*right_things(kinds)), function(*right_things(kinds))
            wanted = copy.deepcopy(told)
            lists = lists_in(told)
            self.assertEqual(len({id(one) for one in lists}), len(lists), function)
            spoil_all(told)
            self.assertEqual(kept, wanted, function)
            self.assertEqual(function(*right_things(kinds)), wanted, function)

    def test_told_lists_are_none_that_were_handed_in(self):
        for function, kinds in INTERFACE.items():
            handed = right_things(kinds)
            mine = {id(one) for one in lists_in(handed)}
            self.assertFalse(mine & {id(one) for one in lists_in(function(*handed))}, function)

    def test_what_is_handed_in_may_be_changed_behind_the_call(self):
        for function, kinds in INTERFACE.items():
            handed = right_things(kinds)
            told = function(*handed)
            wanted = copy.deepcopy(told)
            spoil_all(handed)
            self.assertEqual(told, wanted, function)
            self.assertEqual(function(*right_things(kinds)), wanted, function)

    def test_the_same_is_told_whenever_it_is_asked(self):
        first = [function(*right_things(kinds)) for function, kinds in INTERFACE.items()]
        for function, kinds in reversed(list(INTERFACE.items())):
            function(*right_things(kinds))
            for at in range(len(kinds)):
                handed = right_things(kinds)
                handed[at] = None
                try:
                    function(*handed)
                except errors.SayError:
                    pass
        self.assertEqual([function(*right_things(kinds)) for function, kinds in INTERFACE.items()], first)

    def test_the_same_is_told_by_another_process(self):
        asked = "from test_whole import *; print([f(*right_things(kinds)) for f, kinds in INTERFACE.items()])"
        folder = pathlib.Path(__file__).resolve().parent
        wanted = repr([function(*right_things(kinds)) for function, kinds in INTERFACE.items()])
        for seed in ("0", "1", "12345"):
            found = subprocess.run([sys.executable, "-B", "-c", asked], check=True, cwd=folder, capture_output=True,
                                   text=True, env={"PYTHONPATH": str(folder.parent), "PYTHONHASHSEED": seed})
            self.assertEqual(found.stdout.strip(), wanted)


def spoil_all(thing):
    """Put something else into all lists within a thing."""
    for one in lists_in(thing):
        one.insert(0, "more")


class TruthsTest(unittest.TestCase):
    def test_what_is_so_is_told_as_true_or_false(self):
        things = NO_SHAPES + NO_SAYINGS + NO_LISTS + NO_TABLES + BRACKETS + [
            SHAPE, YES, TEST, ONE, TABLE, [], ("row", [(1, 1)]), ("shut", []), pairs.pairs_of(SHAPE, ONE, OTHER),
            tables.table_of(SHAPE, ONE), comings.come_to(SHAPE, ONE, SOME, MORE)]
        for function in TRUTHS:
            told = [function(*right_things(INTERFACE[function][:-1]), thing) for thing in things]
            self.assertEqual({type(one) for one in told}, {bool}, function)
        self.assertIs(pairs.judge_pairs(SHAPE, ONE, ONE, pairs.pairs_of(SHAPE, ONE, ONE)), True)
        self.assertIs(comings.judge_come(SHAPE, ONE, SOME, MORE, comings.come_to(SHAPE, ONE, SOME, MORE)), True)
        self.assertIs(tables.judge_table(SHAPE, ONE, tables.table_of(SHAPE, ONE)), True)

    def test_true_and_false_are_no_numbers(self):
        self.assertIs(letters.is_shape((True, 2)), False)
        self.assertIs(sayings.is_saying(SHAPE, ("is", False, True)), False)
        self.assertIs(sayings.is_test(SHAPE, ("is", 0, True)), False)
        self.assertIs(tables.is_table(SHAPE, [((True, -1), [])]), False)
        self.assertIs(tables.is_table(SHAPE, [((1, -1), [(False, 1)])]), False)
        self.assertIs(comings.judge_come(SHAPE, YES, [(1, 1)], [(1, 1)], ("row", [(True, True)])), False)
        for function, handed, error in [
                (letters.letters_of, ((True,),), errors.NoShape),
                (trails.trails_of, (SHAPE, YES, (0, False), 1), errors.NoLetter),
                (trails.trails_of, (SHAPE, YES, (0, 0), True), errors.NoCount),
                (least.trail_count, (SHAPE, YES, (0, 0), False), errors.NoCount),
                (least.trail_count, (SHAPE, YES, (True, 0), 0), errors.NoLetter),
                (turned.test_of, (SHAPE, [(0, True)]), errors.NoLetter),
                (tables.table_does, (SHAPE, [((0, 0), [(True, 0)])]), errors.NoTable),
                (comings.come_to, (SHAPE, YES, [(False, 0)], []), errors.NoLetter),
                (comings.come_to, (SHAPE, YES, [], [(0, True)]), errors.NoLetter),
                (texts.shown_saying, (SHAPE, ("put", 0, True)), errors.NoSaying)]:
            with self.assertRaises(error):
                function(*handed)


class RefusalsTest(unittest.TestCase):
    def refuses(self, name, function, handed):
        with self.assertRaises(errors.SayError, msg=(function.__name__, repr(handed)[:200])) as caught:
            function(*handed)
        self.assertEqual(type(caught.exception).__name__, name, (function.__name__, repr(handed)[:200]))

    def test_anything_in_each_place(self):
        for function, kinds in INTERFACE.items():
            for at, kind in enumerate(kinds):
                if kind in WRONG:
                    name, things = WRONG[kind]
                    for thing in things:
                        handed = right_things(kinds)
                        handed[at] = thing
                        self.refuses(name, function, handed)

    def test_of_several_refusals_the_first_one(self):
        for function, kinds in INTERFACE.items():
            for at, kind in enumerate(kinds):
                if kind in WRONG:
                    name, things = WRONG[kind]
                    for thing in things[:8] + things[-8:]:
                        handed = right_things(kinds)[:at] + [thing] + [None] * (len(kinds) - at - 1)
                        self.refuses(name, function, handed)

    def test_of_two_sayings_the_one_ahead_first(self):
        # Both are refused with the same class; a wrong one in either place is.
        for function in (pairs.pairs_of, pairs.parted_at, pairs.within_at, pairs.shared_at):
            for thing in NO_SAYINGS:
                self.refuses("NoSaying", function, (SHAPE, thing, YES))
                self.refuses("NoSaying", function, (SHAPE, YES, thing))
                self.refuses("NoSaying", function, (SHAPE, thing, thing))

    def test_more_than_a_thousand_brackets(self):
        for text in BRACKETS:
            for function, kinds in INTERFACE.items():
                for at, kind in enumerate(kinds):
                    handed = right_things(kinds)
                    handed[at] = text
                    if kind in WRONG:
                        self.refuses(WRONG[kind][0], function, handed)
                    else:
                        self.assertIs(function(*handed), False)
            self.refuses("NoLine", desk.Desk().tell, (text,))
            self.refuses("NoText", desk.Desk().tell, (f"rests {text}",))

    def test_what_was_told_is_no_other_thing(self):
        """What one function tells is refused by others that want something else, however big it is."""
        told = [machines.machine_of(SHAPE, ONE), trails.trails_of(SHAPE, ONE, (0, 0), 2), trails.does(SHAPE, ONE),
                pairs.pairs_of(SHAPE, ONE, OTHER), least.least_machine(SHAPE, ONE),
                least.trail_count(CUBE, ("again", ("then", NOTE, any_letter(CUBE))), LAST, 200),
                pairs.parted_at(SHAPE, ONE, OTHER), texts.shown_saying(SHAPE, ONE) + "x", comings.come_to(SHAPE, ONE, [], [])]
        for thing in told:
            for function, kinds in INTERFACE.items():
                for at, kind in enumerate(kinds):
                    handed = right_things(kinds)
                    handed[at] = thing
                    if kind in WRONG:
                        self.refuses(WRONG[kind][0], function, handed)


class SoonTest(unittest.TestCase):
    """Sayings of sixty parts, of 27 letters: all that can be asked of them is told, none of it by long searching."""

    def test_sixty_parts(self):
        # The lot of notes at which it may be is another one for very many noted rows.
        steps = [then_all([NOTE, ("either", ("put", field, value), YES)]) for field, value in
                 [(0, 1), (1, 2), (2, 0), (0, 2), (1, 1)]]
        saying = ("again", ("either", steps[0], ("either", steps[1], ("either", steps[2], ("either", steps[3], steps[4])))))
        while count_parts(saying) < 60:
            saying = ("again", ("then", saying, YES))
        self.assertEqual(count_parts(saying), 60)
        for function, kinds in INTERFACE.items():
            handed = [CUBE if kind == "shape" else saying if kind in ("saying", "thing") else
                      LAST if kind == "letter" else letters.letters_of(CUBE) if kind == "letters" else
                      2 if kind == "most" else 200 if kind == "many" else
                      [((-1, -1, -1), [(0, 0, 0), (1, 1, 1)])] * 60 if kind == "table" else
                      texts.shown_saying(CUBE, saying) if kind == "text" else ("not", ("is", 0, 0)) for kind in kinds]
            try:
                function(*handed)
            except (errors.TooMany, errors.NoText):
                pass

    def test_what_was_told_may_be_handed_in_again(self):
        saying = ("then", ("not", ("is", 0, 2)), count_on(CUBE))
        for at in range(3):
            table = tables.table_of(CUBE, saying)
            self.assertIs(tables.judge_table(CUBE, saying, table), True)
            saying = turned.turned_saying(CUBE, tables.saying_of(CUBE, table))
            self.assertIs(sayings.is_saying(CUBE, saying), True)
        self.assertGreater(count_parts(saying), 500)
        told = pairs.pairs_of(CUBE, saying, saying)
        self.assertIs(pairs.judge_pairs(CUBE, saying, saying, told), True)
        row = comings.come_to(CUBE, saying, letters.letters_of(CUBE), [])
        self.assertIs(comings.judge_come(CUBE, saying, row[1], [], row), True)
        test = turned.test_of(CUBE, row[1])
        self.assertEqual(turned.test_letters(CUBE, test), row[1])
        self.assertIs(sayings.is_saying(CUBE, ("then", test, SIX_NOTES[1])), True)

    def test_a_desk_with_long_lines(self):
        told = desk.Desk()
        told.tell("fields 3 3 3")
        told.tell("let on = " + texts.shown_saying(CUBE, count_on(CUBE)))
        self.assertEqual(told.tell("come on 000 222").count("-"), 26)
        self.assertEqual(told.tell("count again((note;on)) 000 200"), "1")
        self.assertEqual(told.tell("rests again((note;on))"), "27")
        self.assertEqual(told.tell("alike again((note;on)) again((on;note))"), "000 000-001")


if __name__ == "__main__":
    unittest.main()
