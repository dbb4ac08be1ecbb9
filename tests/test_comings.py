import copy
import itertools
import random
import unittest

from roadsay.comings import come_to, judge_come
from roadsay.errors import NoLetter, NoSaying, NoShape
from roadsay.letters import letters_of
from roadsay.tables import saying_of
from roadsay.trails import does

import oracle
import oracle_tables
from things import (CUBE, FIRST, LAST, NO_LETTERS, NO_LISTS, NO_SAYINGS, NO_SHAPES, any_letter, count_on, deep,
                    lists_in)

YES, NO, NOTE = ("yes",), ("no",), ("note",)
A, B, C, D = (0,), (1,), (2,), (3,)
ON = count_on((4,))


def leading(shape, nexts):
    """A saying by which just those letters can come next that nexts has for a letter."""
    return saying_of(shape, [(letter, sorted(nexts[letter])) for letter in nexts])


class ComeTest(unittest.TestCase):
    """Of the shape (4,), if no other one is told."""

    def tells(self, saying, starts, goals, told, shape=(4,)):
        before = copy.deepcopy((starts, goals))
        found = come_to(shape, saying, starts, goals)
        self.assertEqual(found, told)
        self.assertIs(type(found), tuple)
        self.assertIs(type(found[1]), list)
        self.assertEqual((starts, goals), before)
        self.assertIs(judge_come(shape, saying, starts, goals, found), True)

    def test_a_start_that_is_a_goal(self):
        for saying in (YES, NO, NOTE, ON, any_letter((4,))):
            self.tells(saying, [B], [B], ("row", [B]))
            self.tells(saying, [D, B, C], [C, B], ("row", [B]))
            self.tells(saying, [D, B, C], [A, C, D], ("row", [C]))

    def test_rows(self):
        self.tells(ON, [A], [B], ("row", [A, B]))
        self.tells(ON, [A], [D], ("row", [A, B, C, D]))
        self.tells(ON, [C], [B], ("row", [C, D, A, B]))
        self.tells(any_letter((4,)), [D], [B], ("row", [D, B]))
        self.tells(("put", 0, 2), [A], [C], ("row", [A, C]))

    def test_the_fewest_letters(self):
        self.tells(ON, [A, C], [D], ("row", [C, D]))
        self.tells(ON, [A], [D, C], ("row", [A, B, C]))
        # A longer row would be less.
        nexts = {A: [B], B: [D], C: [D], D: []}
        self.tells(leading((4,), nexts), [A, C], [D], ("row", [C, D]))

    def test_of_like_ones_the_least(self):
        nexts = {A: [C, B], B: [D], C: [D], D: []}
        self.tells(leading((4,), nexts), [A], [D], ("row", [A, B, D]))
        self.tells(any_letter((4,)), [D, C, B], [A], ("row", [B, A]))
        self.tells(any_letter((4,)), [A], [D, C], ("row", [A, C]))
        # The least row goes to a greater goal.
        nexts = {A: [D], B: [C], C: [], D: []}
        self.tells(leading((4,), nexts), [B, A], [C, D], ("row", [A, D]))
        nexts = {(0, 0): [(1, 1), (1, 0)], (1, 0): [(2, 1)], (1, 1): [(2, 0)], (2, 0): [], (2, 1): [], (0, 1): []}
        self.tells(leading((3, 2), nexts), [(0, 0)], [(2, 0), (2, 1)], ("row", [(0, 0), (1, 0), (2, 1)]), (3, 2))

    def test_shut_lots(self):
        self.tells(YES, [C], [A], ("shut", [C]))
        self.tells(NO, [C, B], [A], ("shut", [B, C]))
        self.tells(("put", 0, 1), [D], [A], ("shut", [B, D]))
        self.tells(("either", ("put", 0, 0), ("put", 0, 2)), [D], [B], ("shut", [A, C, D]))
        self.tells(ON, [C], [], ("shut", [A, B, C, D]))
        self.tells(("then", ("not", ("is", 0, 3)), ON), [B], [A], ("shut", [B, C, D]))

    def test_what_comes_with_a_note_comes_not(self):
        self.tells(("then", NOTE, ON), [A], [B], ("shut", [A]))
        self.tells(("then", ON, NOTE), [A], [B], ("shut", [A]))
        self.tells(("either", ("then", NOTE, ON), ("put", 0, 3)), [A], [B], ("shut", [A, D]))
        self.tells(("again", ("then", NOTE, ON)), [A], [B], ("shut", [A]))

    def test_no_starts_and_no_goals(self):
        for saying in (YES, ON, any_letter((4,))):
            self.tells(saying, [], [], ("shut", []))
            self.tells(saying, [], [A], ("shut", []))
            self.tells(saying, [], letters_of((4,)), ("shut", []))
        self.tells(YES, [B], [], ("shut", [B]))
        self.tells(NO, letters_of((4,)), [], ("shut", letters_of((4,))))

    def test_all_and_some_twice(self):
        every = letters_of((4,))
        self.tells(ON, every, every, ("row", [A]))
        self.tells(ON, every[::-1], [C], ("row", [C]))
        self.tells(ON, [B], every, ("row", [B]))
        self.tells(ON, [C, B, C, B, B], [D, D, A, D], ("row", [C, D]))
        self.tells(YES, [C, B, C, B, B], [D, D, A, D], ("shut", [B, C]))
        self.tells(YES, [C] * 300, [D] * 300, ("shut", [C]))

    def test_twenty_seven_letters(self):
        letters = letters_of(CUBE)
        self.tells(count_on(CUBE), [FIRST], [LAST], ("row", letters), CUBE)
        self.tells(count_on(CUBE), [FIRST], [], ("shut", letters), CUBE)
        self.tells(any_letter(CUBE), [LAST], [FIRST], ("row", [LAST, FIRST]), CUBE)

    def test_many(self):
        chance = random.Random(107)
        found = set()
        for shape, many in [((1,), 10), ((2,), 30), ((4,), 60), ((2, 2), 60), ((2, 3), 60), ((2, 1, 2), 30)]:
            letters = letters_of(shape)
            nexts = [{letter: chance.sample(letters, chance.randrange(min(3, len(letters) + 1))) for letter in letters}
                     for at in range(many)]
            sayings = oracle.some_sayings(shape, many, 109) + [leading(shape, one) for one in nexts]
            for saying in sayings:
                starts = chance.choices(letters, k=chance.randrange(4))
                goals = chance.choices(letters, k=chance.randrange(3))
                told = oracle_tables.come(oracle_tables.nexts_by(shape, saying), starts, goals)
                found.add((told[0], len(told[1])))
                self.tells(saying, starts, goals, told, shape)
        self.assertTrue({("row", 1), ("row", 2), ("row", 3), ("row", 5), ("shut", 0), ("shut", 4)} <= found, found)

    def test_the_told_lists_are_the_askers_own(self):
        for starts, goals in [([A], [C]), ([A], []), ([C], [C]), ([], [])]:
            told, kept = come_to((4,), ON, starts, goals), come_to((4,), ON, starts, goals)
            wanted = copy.deepcopy(told)
            told[1].append("more")
            self.assertEqual(kept, wanted)
            self.assertEqual(come_to((4,), ON, starts, goals), wanted)
            starts.append(B)
            goals.append(B)
            self.assertEqual(kept, wanted)
            self.assertEqual(len(lists_in(told)), 1)


class JudgeTest(unittest.TestCase):
    """Of the shape (4,), if no other one is told."""

    def judges(self, saying, starts, goals, thing, told, shape=(4,)):
        before = copy.deepcopy((starts, goals, thing))
        self.assertIs(judge_come(shape, saying, starts, goals, thing), told, (saying, starts, goals, thing))
        self.assertEqual((starts, goals, thing), before)

    def test_rows(self):
        both = ("either", ON, YES)
        self.judges(both, [A], [C], ("row", [A, B, C]), True)
        # Longer than needed.
        self.judges(both, [A], [C], ("row", [A, A, B, B, C, C]), True)
        self.judges(both, [A], [C], ("row", [A, B, C, D, A, B, C]), True)
        self.judges(both, [A], [C], ("row", [A, B, C] + [C] * 297), True)
        self.judges(both, [B, A], [C], ("row", [A, B, C]), True)
        # Not the least one.
        self.judges(any_letter((4,)), [A, B], [C, D], ("row", [B, D]), True)
        self.judges(any_letter((4,)), [A], [D], ("row", [A, C, B, D]), True)
        self.judges(ON, [A], [A], ("row", [A]), True)
        self.judges(ON, [A], [A], ("row", [A, B, C, D, A]), True)

    def test_rows_with_a_step_that_cannot_come(self):
        self.judges(ON, [A], [C], ("row", [A, C]), False)
        self.judges(ON, [A], [C], ("row", [A, A, B, C]), False)
        self.judges(ON, [A], [C], ("row", [A, B, B, C]), False)
        self.judges(ON, [A], [C], ("row", [A, B, C, C]), False)
        self.judges(ON, [A], [C], ("row", [A, D, C]), False)
        self.judges(NO, [A], [A], ("row", [A, A]), False)
        self.judges(("then", NOTE, ON), [A], [B], ("row", [A, B]), False)

    def test_rows_that_begin_or_end_elsewhere(self):
        self.judges(ON, [A], [C], ("row", [B, C]), False)
        self.judges(ON, [A], [C], ("row", [D, A, B, C]), False)
        self.judges(ON, [A], [C], ("row", [A, B]), False)
        self.judges(ON, [A], [C], ("row", [A, B, C, D]), False)
        self.judges(ON, [A], [C], ("row", [C]), False)
        self.judges(ON, [A], [C], ("row", [A]), False)
        self.judges(ON, [], [C], ("row", [C]), False)
        self.judges(ON, [A], [], ("row", [A]), False)

    def test_empty_rows(self):
        for starts, goals in itertools.product([[], [A], [A, B]], repeat=2):
            self.judges(YES, starts, goals, ("row", []), False)

    def test_shut_lots(self):
        to_b = ("put", 0, 1)
        self.judges(to_b, [D], [A], ("shut", [B, D]), True)
        self.judges(to_b, [D], [A], ("shut", [D, B]), True)
        self.judges(to_b, [D], [A], ("shut", [D, B, D, D, B]), True)
        self.judges(to_b, [D] * 3, [A], ("shut", [D, B] * 150), True)
        # More than can come.
        self.judges(to_b, [D], [A], ("shut", [B, C, D]), True)
        self.judges(to_b, [], [A], ("shut", [B]), True)
        self.judges(to_b, [], [A], ("shut", []), True)
        self.judges(to_b, [], [], ("shut", letters_of((4,))), True)
        self.judges(YES, [B], [], ("shut", [B]), True)

    def test_shut_lots_with_one_missing(self):
        to_b = ("put", 0, 1)
        self.judges(to_b, [D], [A], ("shut", [D]), False)
        self.judges(to_b, [D], [A], ("shut", [B]), False)
        self.judges(to_b, [D], [A], ("shut", []), False)
        self.judges(to_b, [D, C], [A], ("shut", [D, B]), False)
        self.judges(to_b, [], [A], ("shut", [D]), False)
        self.judges(ON, [A], [], ("shut", [A, B, C]), False)
        # What can come of a letter that no start leads to is due, too.
        self.judges(ON, [], [], ("shut", [A, B, C]), False)

    def test_shut_lots_with_a_goal(self):
        to_b = ("put", 0, 1)
        self.judges(to_b, [D], [B], ("shut", [B, D]), False)
        self.judges(to_b, [D], [D], ("shut", [B, D]), False)
        self.judges(to_b, [D], [A], ("shut", [A, B, D]), False)
        self.judges(to_b, [], [A], ("shut", [A, B]), False)
        self.judges(to_b, [D], [C, A], ("shut", [B, D, A]), False)

    def test_just_one_of_both_can_be(self):
        for saying in oracle.some_sayings((2, 2), 40, 113):
            nexts = oracle_tables.nexts_by((2, 2), saying)
            letters = letters_of((2, 2))
            for start, goal in itertools.product(letters, repeat=2):
                word = come_to((2, 2), saying, [start], [goal])[0]
                for many in range(4):
                    for row in itertools.permutations(letters, many):
                        for said in ("row", "shut"):
                            wanted = oracle_tables.judges_come(nexts, [start], [goal], said, row)
                            self.assertFalse(wanted and said != word)

    def test_many(self):
        chance = random.Random(127)
        found = set()
        for shape in [(1,), (2,), (4,), (2, 2), (2, 1, 2)]:
            letters = letters_of(shape)
            for saying in oracle.some_sayings(shape, 40, 131):
                nexts = oracle_tables.nexts_by(shape, saying)
                for at in range(20):
                    starts = chance.choices(letters, k=chance.randrange(3))
                    goals = chance.choices(letters, k=chance.randrange(3))
                    row = self.varied(chance, nexts, come_to(shape, saying, starts, goals)[1])
                    for word in ("row", "shut"):
                        wanted = oracle_tables.judges_come(nexts, starts, goals, word, row)
                        found.add((word, wanted))
                        self.judges(saying, starts, goals, (word, row), wanted, shape)
        self.assertEqual(len(found), 4)

    def varied(self, chance, nexts, letters):
        """Letters as they are, mixed, with one more, or with one missing."""
        row = list(letters)
        kind = chance.randrange(4)
        if kind == 1:
            chance.shuffle(row)
        elif kind == 2:
            row.insert(chance.randrange(len(row) + 1), chance.choice(list(nexts)))
        elif kind == 3 and row:
            row.pop(chance.randrange(len(row)))
        return row

    def test_other_words_kinds_and_lengths(self):
        row, shut = ([A], [A], ("row", [A])), ([A], [B], ("shut", [A]))
        for starts, goals, right in (row, shut):
            word, letters = right
            self.judges(YES, starts, goals, right, True)
            for thing in [None, True, False, 0, 1, "", word, letters, (), [], (word,), (letters,), [word, letters],
                          (word, letters, letters), (word, letters, None), (letters, word), (word, word),
                          (word, tuple(letters)), (word, A), (word, None), (word, "0"), (word, [letters]),
                          (word, [[0]]), (word, [0]), (word, ["0"]), (word, [None]), (word, [(False,)]),
                          (word, [A, (False,)]), (word, [A, None]), (word, [A, ()]), (word, [A, (0, 0)]),
                          (word, [A, (4,)]), (word, [A, (-1,)]), (None, letters), (True, letters), (0, letters),
                          ("", letters), ("rows", letters), ("Row", letters), ("SHUT", letters), ("shu", letters),
                          ([word], letters), ((word,), letters), [right], (right,), deep(right, 16)]:
                self.judges(YES, starts, goals, thing, False)

    def test_truths_in_place_of_numbers(self):
        self.judges(YES, [B], [B], ("row", [B]), True)
        self.judges(YES, [B], [B], ("row", [(True,)]), False)
        self.judges(YES, [B], [B], ("row", [B, (True,)]), False)
        self.judges(YES, [B], [A], ("shut", [B]), True)
        self.judges(YES, [B], [A], ("shut", [(True,)]), False)
        self.judges(YES, [B], [C], ("shut", [B, (False,)]), False)

    def test_letters_of_another_shape(self):
        for word in ("row", "shut"):
            for thing in NO_LETTERS:
                self.judges(YES, [(0, 0)], [(0, 0)] if word == "row" else [], (word, [thing]), False, (2, 2))
                self.judges(YES, [(0, 0)], [(0, 0)] if word == "row" else [], (word, [(0, 0), thing]), False, (2, 2))
            for thing in NO_LISTS:
                self.judges(YES, [], [], (word, thing), False, (2, 2))


class RefusedTest(unittest.TestCase):
    def refuses(self, error, shape, saying, starts, goals):
        before = copy.deepcopy((shape, saying, starts, goals))
        for thing in [None, ("row", [(0, 0)]), ("shut", [(0, 0)]), ("row", [])]:
            with self.assertRaises(error, msg=repr((shape, saying, starts, goals))):
                judge_come(shape, saying, starts, goals, thing)
        with self.assertRaises(error, msg=repr((shape, saying, starts, goals))):
            come_to(shape, saying, starts, goals)
        self.assertEqual((shape, saying, starts, goals), before)

    def test_no_shape_first(self):
        for shape in NO_SHAPES:
            for saying, starts, goals in [(YES, [A], [A]), (None, None, None), (YES, [], []), (("maybe",), [9], "")]:
                self.refuses(NoShape, shape, saying, starts, goals)

    def test_then_no_saying(self):
        for saying in NO_SAYINGS:
            for starts, goals in [([(0, 0)], []), (None, None), ([(0, 2)], ()), ([], [])]:
                self.refuses(NoSaying, (2, 2), saying, starts, goals)

    def test_then_no_letters(self):
        for thing in NO_LISTS:
            for other in ([], [(0, 0)], None):
                self.refuses(NoLetter, (2, 2), YES, thing, other)
                self.refuses(NoLetter, (2, 2), YES, other, thing)

    def test_letters_of_another_shape(self):
        self.refuses(NoLetter, (2,), YES, [(2,)], [])
        self.refuses(NoLetter, (2,), YES, [], [(2,)])
        self.refuses(NoLetter, (2,), YES, [(0, 0)], [])
        self.assertEqual(come_to((3,), YES, [(2,)], []), ("shut", [(2,)]))

    def test_the_same_whatever_is_refused_between(self):
        wanted = come_to((4,), ON, [A], [D])
        self.refuses(NoLetter, (4,), ON, [A], [(4,)])
        self.assertEqual(come_to((4,), ON, [A], [D]), wanted)
        self.assertEqual(does((4,), ON), [[B], [C], [D], [A]])


if __name__ == "__main__":
    unittest.main()
