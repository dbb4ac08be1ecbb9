import unittest

from roadsay.errors import NoCount, NoLetter, NoSaying, NoShape, TooMany
from roadsay.letters import letters_of
from roadsay.trails import does, trails_of

import oracle
import oracle_trails
from things import (NO_COUNTS, NO_LETTERS, NO_SAYINGS, NO_SHAPES, any_letter, count_on, count_parts, either_all,
                    lists_in, then_all)

YES, NO, NOTE = ("yes",), ("no",), ("note",)
TO_A, TO_B = ("put", 0, 0), ("put", 0, 1)
IS_A, IS_B = ("is", 0, 0), ("is", 0, 1)
A, B = (0,), (1,)

# Of the shape (4, 2) five letters that come of any one, and four.
FIVE = ("either", ("then", ("put", 1, 0), either_all([("put", 0, value) for value in range(4)])),
        ("then", ("put", 0, 0), ("put", 1, 1)))
FOUR = either_all([("put", 0, value) for value in range(4)])
# 5 * 5 * 5 * 4 trails, all with three notes.
JUST_500 = then_all([FIVE, NOTE, FIVE, NOTE, FIVE, NOTE, FOUR])
MILLIONS = ("again", ("then", any_letter((3, 3, 3)), NOTE))


class ByHand(unittest.TestCase):
    """Trails of letters of the shape (2,), if no other one is told."""

    def tells(self, saying, letter, most, trails, shape=(2,)):
        told = trails_of(shape, saying, letter, most)
        self.assertEqual(told, trails)
        self.assertIs(type(told), list)


class WordsTest(ByHand):
    def test_words_without_a_note(self):
        for most in range(5):
            self.tells(YES, A, most, [(A,)])
            self.tells(YES, B, most, [(B,)])
            self.tells(NO, A, most, [])
            self.tells(IS_A, A, most, [(A,)])
            self.tells(IS_A, B, most, [])
            self.tells(TO_B, A, most, [(B,)])
            self.tells(TO_B, B, most, [(B,)])
            self.tells(("not", IS_A), A, most, [])
            self.tells(("not", IS_A), B, most, [(B,)])
            self.tells(("not", NO), A, most, [(A,)])
            self.tells(("not", YES), A, most, [])
            self.tells(("not", ("then", IS_A, IS_B)), A, most, [(A,)])
            self.tells(("not", ("either", IS_A, IS_B)), A, most, [])

    def test_note(self):
        self.tells(NOTE, A, 0, [])
        for most in range(1, 5):
            self.tells(NOTE, A, most, [(A, A)])
            self.tells(NOTE, B, most, [(B, B)])

    def test_then(self):
        self.tells(("then", NOTE, TO_B), A, 1, [(A, B)])
        self.tells(("then", TO_B, NOTE), A, 1, [(B, B)])
        self.tells(("then", NOTE, NO), A, 4, [])
        self.tells(("then", NO, NOTE), A, 4, [])
        self.tells(then_all([NOTE, TO_B, NOTE, TO_A]), A, 2, [(A, B, A)])
        self.tells(then_all([NOTE, TO_B, NOTE, TO_A]), A, 1, [])
        self.tells(("then", ("either", TO_A, TO_B), ("then", NOTE, ("either", TO_A, TO_B))), A, 1,
                   [(A, A), (A, B), (B, A), (B, B)])
        self.tells(then_all([("either", TO_A, TO_B), IS_B, NOTE]), A, 1, [(B, B)])

    def test_either(self):
        self.tells(("either", TO_B, YES), A, 0, [(A,), (B,)])
        self.tells(("either", TO_B, YES), B, 0, [(B,)])
        self.tells(("either", NOTE, NOTE), A, 4, [(A, A)])
        self.tells(("either", NOTE, YES), A, 0, [(A,)])
        self.tells(("either", NOTE, YES), A, 1, [(A,), (A, A)])
        self.tells(("either", ("then", NOTE, TO_A), TO_B), B, 1, [(B,), (B, A)])

    def test_not_within_others(self):
        self.tells(("then", ("not", IS_A), NOTE), B, 1, [(B, B)])
        self.tells(("then", ("not", IS_A), NOTE), A, 1, [])
        self.tells(("then", NOTE, ("then", TO_B, ("not", IS_A))), A, 1, [(A, B)])
        self.tells(("not", ("not", ("not", IS_A))), B, 0, [(B,)])


class AgainTest(ByHand):
    def test_without_a_note(self):
        for most in (0, 4):
            self.tells(("again", YES), A, most, [(A,)])
            self.tells(("again", NO), A, most, [(A,)])
            self.tells(("again", IS_B), A, most, [(A,)])
            self.tells(("again", TO_B), A, most, [(A,), (B,)])
            self.tells(("again", ("either", TO_A, TO_B)), B, most, [(A,), (B,)])
            self.tells(("again", count_on((4,))), (2,), most, [((value,),) for value in range(4)], (4,))

    def test_with_a_note(self):
        self.tells(("again", NOTE), A, 0, [(A,)])
        self.tells(("again", NOTE), A, 1, [(A,), (A, A)])
        self.tells(("again", NOTE), A, 4, [(A,) * many for many in range(1, 6)])
        self.tells(("again", ("then", NOTE, TO_B)), A, 3, [(A,), (A, B), (A, B, B), (A, B, B, B)])
        self.tells(("again", ("then", NOTE, count_on((4,)))), (2,), 4,
                   [((2,),), ((2,), (3,)), ((2,), (3,), (0,)), ((2,), (3,), (0,), (1,)),
                    ((2,), (3,), (0,), (1,), (2,))], (4,))

    def test_with_two_notes_at_once(self):
        two = ("again", ("then", NOTE, NOTE))
        for most, many in [(0, 1), (1, 1), (2, 2), (3, 2), (4, 3)]:
            self.tells(two, B, most, [(B,) * count for count in (1, 3, 5)][:many])

    def test_with_and_without_a_note(self):
        self.tells(("again", ("either", TO_B, NOTE)), A, 1, [(A,), (A, A), (A, B), (B,), (B, B)])
        self.tells(("again", ("either", TO_B, NOTE)), B, 2, [(B,), (B, B), (B, B, B)])

    def test_within_again(self):
        self.tells(("again", ("again", NOTE)), A, 2, [(A,), (A, A), (A, A, A)])
        self.tells(("again", ("again", TO_B)), A, 2, [(A,), (B,)])
        self.tells(("again", ("then", ("again", NOTE), TO_B)), A, 1, [(A,), (A, B), (B,), (B, B)])
        self.tells(("again", ("then", NOTE, ("again", ("then", TO_B, NOTE)))), A, 2,
                   [(A,), (A, A), (A, A, A), (A, B, B)])

    def test_behind_and_ahead_of_others(self):
        self.tells(("then", ("again", NOTE), TO_B), A, 2, [(A, A, B), (A, B), (B,)])
        self.tells(("then", ("again", ("then", NOTE, TO_B)), IS_B), A, 2, [(A, B), (A, B, B)])


class WholeTest(ByHand):
    def test_rising(self):
        # Trails are compared as tuples: a longer one may stand ahead of a shorter one.
        self.tells(("either", TO_B, then_all([TO_A, NOTE, TO_B, NOTE, TO_A])), A, 4, [(A, B, A), (B,)])
        every = ("again", ("then", NOTE, any_letter((2,))))
        told = trails_of((2,), every, A, 4)
        self.assertEqual(told, sorted(set(told)))
        self.assertEqual(len(told), 1 + 2 + 4 + 8 + 16)
        self.assertEqual(told[:5], [(A,), (A, A), (A, A, A), (A, A, A, A), (A, A, A, A, A)])

    def test_several_fields(self):
        saying = then_all([("is", 0, 1), ("put", 2, 1), NOTE, ("either", ("put", 1, 0), ("put", 0, 0))])
        self.tells(saying, (1, 2, 0), 1, [((1, 2, 1), (0, 2, 1)), ((1, 2, 1), (1, 0, 1))], (2, 3, 2))
        self.tells(saying, (0, 2, 0), 1, [], (2, 3, 2))
        self.tells(saying, (1, 2, 0), 0, [], (2, 3, 2))

    def test_the_only_letter(self):
        self.tells(("again", ("then", NOTE, ("put", 2, 0))), (0, 0, 0), 2, [((0, 0, 0),) * many for many in (1, 2, 3)],
                   (1, 1, 1))

    def test_many_sayings(self):
        for shape, many, most in [((1,), 40, 4), ((2,), 120, 4), ((3,), 60, 3), ((2, 2), 60, 3), ((2, 1, 2), 60, 2),
                                  ((3, 2, 2), 20, 1)]:
            for saying in oracle.some_sayings(shape, many, 3):
                for letter in letters_of(shape):
                    wanted = sorted(oracle_trails.trails(saying, letter, most))
                    self.assertLessEqual(len(wanted), 500)
                    for notes in range(most + 1):
                        some = [trail for trail in wanted if len(trail) <= notes + 1]
                        self.assertEqual(trails_of(shape, saying, letter, notes), some, (shape, saying, letter))

    def test_the_told_list_is_the_askers_own(self):
        saying = ("again", ("either", NOTE, TO_B))
        told = trails_of((2,), saying, A, 2)
        kept = trails_of((2,), saying, A, 2)
        wanted = list(told)
        told.reverse()
        told.append("more")
        self.assertEqual(kept, wanted)
        self.assertEqual(trails_of((2,), saying, A, 2), wanted)

    def test_the_same_whatever_is_asked_between(self):
        saying = ("again", ("either", NOTE, TO_B))
        wanted = trails_of((2,), saying, A, 3)
        trails_of((3,), saying, (2,), 3)
        with self.assertRaises(TooMany):
            trails_of((3, 3, 3), MILLIONS, (0, 0, 0), 4)
        trails_of((2,), saying, B, 1)
        self.assertEqual(trails_of((2,), saying, A, 3), wanted)


class TooManyTest(unittest.TestCase):
    def test_just_five_hundred(self):
        self.assertLessEqual(count_parts(JUST_500), 60)
        for letter in [(0, 0), (3, 1)]:
            for most in (0, 1, 2):
                self.assertEqual(trails_of((4, 2), JUST_500, letter, most), [])
            for most in (3, 4):
                told = trails_of((4, 2), JUST_500, letter, most)
                self.assertEqual(len(set(told)), 500)
                self.assertEqual(told, sorted(told))

    def test_one_more(self):
        more = ("either", JUST_500, YES)
        self.assertEqual(trails_of((4, 2), more, (0, 0), 2), [((0, 0),)])
        for most in (3, 4):
            with self.assertRaises(TooMany):
                trails_of((4, 2), more, (0, 0), most)

    def test_one_more_with_more_notes(self):
        more = ("either", JUST_500, then_all([NOTE, NOTE]))
        self.assertEqual(len(trails_of((4, 2), more, (0, 0), 1)), 0)
        self.assertEqual(len(trails_of((4, 2), more, (0, 0), 2)), 1)
        with self.assertRaises(TooMany):
            trails_of((4, 2), more, (0, 0), 3)

    def test_the_same_trails_by_other_ways_count_once(self):
        for saying in [("either", JUST_500, ("then", NO, NOTE)), ("then", JUST_500, ("either", YES, ("not", NO))),
                       ("then", ("either", YES, ("put", 0, 1)), JUST_500)]:
            self.assertEqual(len(trails_of((4, 2), saying, (0, 0), 4)), 500)
        self.assertEqual(len(trails_of((4,), ("either", NOTE, ("then", NOTE, YES)), (0,), 4)), 1)

    def test_only_some_letters_have_too_many(self):
        saying = ("then", ("is", 1, 1), ("either", JUST_500, YES))
        self.assertEqual(trails_of((4, 2), saying, (0, 0), 4), [])
        with self.assertRaises(TooMany):
            trails_of((4, 2), saying, (0, 1), 4)

    def test_millions_are_refused_soon(self):
        self.assertEqual(len(trails_of((3, 3, 3), MILLIONS, (0, 0, 0), 1)), 28)
        for most in (2, 3, 4):
            with self.assertRaises(TooMany):
                trails_of((3, 3, 3), MILLIONS, (0, 0, 0), most)

    def test_millions_of_beginnings_without_an_end(self):
        # Half a million noted rows lead to no trail, or just one of them does.
        self.assertEqual(trails_of((3, 3, 3), ("then", MILLIONS, NO), (0, 0, 0), 4), [])
        last = (2, 2, 2)
        only = then_all([MILLIONS] + [("is", field, 2) for field in range(3)] + [NOTE, NO])
        self.assertEqual(trails_of((3, 3, 3), ("either", only, NOTE), last, 4), [(last, last)])


class DoesTest(unittest.TestCase):
    def test_each_word(self):
        self.assertEqual(does((2,), YES), [[A], [B]])
        self.assertEqual(does((2,), NO), [[], []])
        self.assertEqual(does((2,), NOTE), [[], []])
        self.assertEqual(does((2,), IS_B), [[], [B]])
        self.assertEqual(does((2,), TO_B), [[B], [B]])
        self.assertEqual(does((2,), ("not", IS_B)), [[A], []])
        self.assertEqual(does((2,), ("then", IS_A, TO_B)), [[B], []])
        self.assertEqual(does((2,), ("either", TO_B, TO_A)), [[A, B], [A, B]])
        self.assertEqual(does((2,), ("either", TO_B, YES)), [[A, B], [B]])
        self.assertEqual(does((2,), ("again", TO_B)), [[A, B], [B]])
        self.assertEqual(does((2,), ("again", NOTE)), [[A], [B]])
        self.assertEqual(does((2,), ("either", ("then", NOTE, TO_A), TO_B)), [[B], [B]])

    def test_each_letter_in_turn(self):
        told = does((2, 3), ("either", ("put", 1, 2), ("put", 0, 0)))
        self.assertEqual(told, [[(0, 0), (0, 2)], [(0, 1), (0, 2)], [(0, 2)], [(0, 0), (1, 2)], [(0, 1), (1, 2)],
                                [(0, 2), (1, 2)]])
        for shape in [(1,), (4,), (2, 2), (4, 3, 2), (3, 3, 3)]:
            letters = letters_of(shape)
            self.assertEqual(does(shape, YES), [[letter] for letter in letters])
            self.assertEqual(does(shape, any_letter(shape)), [letters for letter in letters])
            self.assertEqual(does(shape, count_on(shape)), [[letter] for letter in letters[1:] + letters[:1]])
            self.assertEqual(does(shape, ("again", count_on(shape))), [letters for letter in letters])

    def test_many_sayings(self):
        for shape, many in [((1,), 60), ((2,), 200), ((2, 2), 200), ((2, 3, 2), 60), ((3, 3, 3), 20)]:
            for saying in oracle.some_sayings(shape, many, 19):
                wanted = [[trail[0] for trail in sorted(oracle_trails.trails(saying, letter, 0))]
                          for letter in letters_of(shape)]
                self.assertEqual(does(shape, saying), wanted, (shape, saying))

    def test_the_told_lists_are_all_different_ones(self):
        for saying in [YES, NO, NOTE, TO_B, any_letter((2, 2))]:
            told = does((2, 2), saying)
            lists = lists_in(told)
            self.assertEqual(len(lists), 5)
            self.assertEqual(len({id(one) for one in lists}), 5)
            self.assertEqual({type(letter) for row in told for letter in row} - {tuple}, set())

    def test_the_told_lists_are_the_askers_own(self):
        told = does((2,), TO_B)
        kept = does((2,), TO_B)
        told[0].append("more")
        told[1].clear()
        told.pop()
        self.assertEqual(kept, [[B], [B]])
        self.assertEqual(does((2,), TO_B), [[B], [B]])


class RefusedTest(unittest.TestCase):
    def test_no_shape_first(self):
        for shape in NO_SHAPES:
            for saying, letter, most in [(YES, (0,), 0), (None, None, None), (MILLIONS, (0, 0, 0), 4), ((), (), -1)]:
                with self.assertRaises(NoShape, msg=repr(shape)):
                    trails_of(shape, saying, letter, most)
                with self.assertRaises(NoShape, msg=repr(shape)):
                    does(shape, saying)

    def test_then_no_saying(self):
        for saying in NO_SAYINGS:
            for letter, most in [((0, 0), 0), (None, None), ((0, 2), 5), ((0, 0), True)]:
                with self.assertRaises(NoSaying, msg=repr(saying)):
                    trails_of((2, 2), saying, letter, most)
            with self.assertRaises(NoSaying, msg=repr(saying)):
                does((2, 2), saying)

    def test_then_no_letter(self):
        for letter in NO_LETTERS:
            for saying, most in [(YES, 0), (NO, None), (("again", ("then", any_letter((2, 2)), NOTE)), 4), (YES, 5)]:
                with self.assertRaises(NoLetter, msg=repr(letter)):
                    trails_of((2, 2), saying, letter, most)

    def test_then_no_count(self):
        for most in NO_COUNTS + [5, 6, 200]:
            for saying in [YES, NO]:
                with self.assertRaises(NoCount, msg=repr(most)):
                    trails_of((2, 2), saying, (0, 0), most)
            with self.assertRaises(NoCount, msg=repr(most)):
                trails_of((3, 3, 3), MILLIONS, (0, 0, 0), most)

    def test_too_many_last(self):
        with self.assertRaises(NoLetter):
            trails_of((3, 3, 3), MILLIONS, (0, 0, 3), 4)
        with self.assertRaises(TooMany):
            trails_of((3, 3, 3), MILLIONS, (0, 0, 2), 4)

    def test_nothing_is_changed(self):
        shape, saying, letter, most = [2, 2], ["yes"], [0, 0], [1]
        for told in [(shape, YES, (0, 0), 1), ((2, 2), saying, (0, 0), 1), ((2, 2), ("again", saying), (0, 0), 1),
                     ((2, 2), YES, letter, 1), ((2, 2), YES, (0, letter), 1), ((2, 2), YES, (0, 0), most)]:
            with self.assertRaises(ValueError):
                trails_of(*told)
        self.assertEqual((shape, saying, letter, most), ([2, 2], ["yes"], [0, 0], [1]))


if __name__ == "__main__":
    unittest.main()
