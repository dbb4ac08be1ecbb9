import copy
import itertools
import random
import unittest

from roadsay.errors import NoLetter, NoSaying, NoShape, NoTest
from roadsay.letters import letters_of
from roadsay.machines import machine_of
from roadsay.pairs import parted_at
from roadsay.sayings import is_saying, is_test
from roadsay.trails import does
from roadsay.turned import test_letters as letters_by
from roadsay.turned import test_of as test_for
from roadsay.turned import turned_saying

import oracle
import oracle_trails
from things import (CUBE, LONG_ROUND, NO_LETTERS, NO_SAYINGS, NO_SHAPES, NO_TUPLES, any_letter, count_on, deep,
                    in_row, lists_in, put_all)

YES, NO, NOTE = ("yes",), ("no",), ("note",)


def turned_about(tuples):
    """Each (a, (n1, .., nk, z)) as (z, (nk, .., n1, a))."""
    return {(trail[-1], trail[-2::-1] + (letter,)) for letter, trail in tuples}


class TurnedTest(unittest.TestCase):
    def tells(self, saying, told, shape=(2, 2)):
        self.assertEqual(turned_saying(shape, saying), told)

    def test_what_stays(self):
        for saying in [YES, NO, NOTE, ("is", 0, 1), ("is", 1, 0), ("not", ("is", 0, 0)), ("not", ("not", YES))]:
            self.tells(saying, saying)

    def test_not_stays_with_all_that_is_in_it(self):
        test = ("not", ("then", ("is", 0, 1), ("either", ("then", ("is", 1, 0), YES), ("not", ("then", NO, YES)))))
        self.tells(test, test)
        self.tells(("then", test, NOTE), ("then", NOTE, test))

    def test_put(self):
        self.tells(("put", 0, 0), ("then", ("is", 0, 0), ("put", 0, 0)), (1,))
        self.tells(("put", 2, 0), ("then", ("is", 2, 0), ("put", 2, 0)), (4, 2, 1))
        self.tells(("put", 1, 0), ("then", ("is", 1, 0), ("either", ("put", 1, 0), ("put", 1, 1))))
        self.tells(("put", 0, 1), ("then", ("is", 0, 1), ("either", ("put", 0, 0), ("put", 0, 1))))
        self.tells(("put", 0, 2),
                   ("then", ("is", 0, 2), ("either", ("put", 0, 0), ("either", ("put", 0, 1), ("put", 0, 2)))), (3,))
        self.tells(("put", 1, 2),
                   ("then", ("is", 1, 2),
                    ("either", ("put", 1, 0), ("either", ("put", 1, 1), ("either", ("put", 1, 2), ("put", 1, 3))))),
                   (2, 4))

    def test_then(self):
        self.tells(("then", ("is", 0, 0), NOTE), ("then", NOTE, ("is", 0, 0)))
        self.tells(("then", YES, ("then", NO, NOTE)), ("then", ("then", NOTE, NO), YES))
        self.tells(("then", ("then", YES, NO), NOTE), ("then", NOTE, ("then", NO, YES)))
        self.tells(("then", NOTE, ("put", 0, 0)), ("then", ("then", ("is", 0, 0), ("put", 0, 0)), NOTE), (1,))

    def test_either_and_again(self):
        self.tells(("either", YES, NOTE), ("either", YES, NOTE))
        self.tells(("either", ("then", YES, NO), ("then", NO, NOTE)), ("either", ("then", NO, YES), ("then", NOTE, NO)))
        self.tells(("again", ("then", YES, NOTE)), ("again", ("then", NOTE, YES)))
        self.tells(("again", ("again", ("put", 0, 0))),
                   ("again", ("again", ("then", ("is", 0, 0), ("put", 0, 0)))), (1,))

    def test_within_one_another(self):
        self.tells(("then", ("again", ("either", ("then", NOTE, YES), NO)), ("then", ("not", ("then", YES, NO)), NOTE)),
                   ("then", ("then", NOTE, ("not", ("then", YES, NO))), ("again", ("either", ("then", YES, NOTE), NO))))

    def test_a_test_by_itself_is_a_saying_like_others(self):
        self.tells(("then", ("is", 0, 0), ("is", 1, 1)), ("then", ("is", 1, 1), ("is", 0, 0)))

    def test_trails_from_last_to_first(self):
        for shape, many, most in [((1,), 30, 4), ((2,), 120, 3), ((4,), 40, 2), ((2, 2), 60, 2), ((2, 1, 2), 40, 2)]:
            for saying in oracle.some_sayings(shape, many, 47):
                told = turned_saying(shape, saying)
                self.assertIs(is_saying(shape, told), True)
                self.assertEqual(oracle_trails.tuples_of(shape, told, most),
                                 turned_about(oracle_trails.tuples_of(shape, saying, most)), (shape, saying))

    def test_turned_twice_makes_the_same_trails(self):
        for shape in [(2,), (2, 2), (4, 2)]:
            for saying in oracle.some_sayings(shape, 40, 53):
                self.assertIsNone(parted_at(shape, saying, turned_saying(shape, turned_saying(shape, saying))))

    def test_what_was_told_may_be_turned_again(self):
        saying = ("put", 0, 0)
        for at in range(6):
            saying = turned_saying((4,), saying)
        # There were four times as many puts each time.
        self.assertEqual(repr(saying).count("put"), 4 ** 6)
        self.assertIsNone(parted_at((4,), saying, ("put", 0, 0)))
        saying = LONG_ROUND
        for at in range(4):
            saying = turned_saying(CUBE, saying)
        self.assertIsNone(parted_at(CUBE, saying, LONG_ROUND))

    def test_what_lies_deep(self):
        saying, turned = NOTE, NOTE
        for at in range(3000):
            saying = ("then", ("again", saying), ("is", 0, at % 2))
            turned = ("then", ("is", 0, at % 2), ("again", turned))
        told = turned_saying((2,), saying)
        # Python compares no tuples that lie so deep, so they are gone through part by part.
        for at in range(3000):
            self.assertEqual((told[0], told[1], told[2][0]), ("then", turned[1], "again"))
            told, turned = told[2][1], turned[2][1]
        self.assertEqual(told, NOTE)


class LettersTest(unittest.TestCase):
    def tells(self, test, letters, shape=(2, 2)):
        told = letters_by(shape, test)
        self.assertEqual(told, letters)
        self.assertIs(type(told), list)

    def test_each_word(self):
        every = letters_of((2, 2))
        self.tells(YES, every)
        self.tells(NO, [])
        self.tells(("is", 0, 1), [(1, 0), (1, 1)])
        self.tells(("is", 1, 0), [(0, 0), (1, 0)])
        self.tells(("not", YES), [])
        self.tells(("not", NO), every)
        self.tells(("not", ("is", 1, 0)), [(0, 1), (1, 1)])
        self.tells(("not", ("not", ("is", 1, 0))), [(0, 0), (1, 0)])
        self.tells(("then", ("is", 0, 1), ("is", 1, 0)), [(1, 0)])
        self.tells(("then", ("is", 0, 1), ("is", 0, 0)), [])
        self.tells(("either", ("is", 1, 1), ("is", 0, 0)), [(0, 0), (0, 1), (1, 1)])
        self.tells(("not", ("either", ("is", 1, 1), ("is", 0, 0))), [(1, 0)])

    def test_many_tests(self):
        chance = random.Random(59)
        for shape in [(1,), (4,), (2, 2), (2, 3, 2), CUBE]:
            for at in range(60):
                test = oracle.some_saying(chance, shape, 6, oracle.TEST_WORDS + ["no"])
                wanted = [letter for letter in letters_of(shape) if oracle_trails.trails(test, letter, 0)]
                self.tells(test, wanted, shape)

    def test_the_told_list_is_the_askers_own(self):
        told = letters_by((2,), YES)
        kept = letters_by((2,), YES)
        told.clear()
        self.assertEqual(kept, [(0,), (1,)])
        self.assertEqual(letters_by((2,), YES), [(0,), (1,)])


class TestOfTest(unittest.TestCase):
    def test_none(self):
        for shape in [(1,), (2, 2), CUBE]:
            self.assertEqual(test_for(shape, []), NO)

    def test_one_letter(self):
        self.assertEqual(test_for((4,), [(3,)]), ("either", ("then", ("is", 0, 3), YES), NO))
        self.assertEqual(test_for((2, 2), [(1, 0)]),
                         ("either", ("then", ("is", 0, 1), ("then", ("is", 1, 0), YES)), NO))
        self.assertEqual(test_for(CUBE, [(2, 0, 1)]),
                         ("either", ("then", ("is", 0, 2), ("then", ("is", 1, 0), ("then", ("is", 2, 1), YES))), NO))

    def test_in_any_order_some_twice(self):
        wanted = ("either", ("then", ("is", 0, 0), YES),
                  ("either", ("then", ("is", 0, 2), YES), ("either", ("then", ("is", 0, 3), YES), NO)))
        for letters in itertools.permutations([(0,), (2,), (3,)]):
            self.assertEqual(test_for((4,), list(letters)), wanted)
            self.assertEqual(test_for((4,), list(letters) + [(2,), (2,)]), wanted)
        self.assertEqual(test_for((4,), [(3,)] * 100 + [(0,)] * 100 + [(2,)] * 100), wanted)

    def test_in_rising_order_of_the_letters(self):
        chance = random.Random(67)
        for shape in [(4,), (2, 3), (4, 3, 2), CUBE]:
            letters = letters_of(shape)
            wanted = in_row("either", [in_row("then", [("is", field, value) for field, value in enumerate(letter)], YES)
                                       for letter in letters], NO)
            for at in range(3):
                chance.shuffle(letters)
                self.assertEqual(test_for(shape, letters + letters[:2]), wanted)
            self.assertEqual(test_for(shape, sorted(letters, reverse=True)), wanted)

    def test_back_again(self):
        chance = random.Random(61)
        for shape in [(1,), (4,), (2, 2), (4, 3, 2), CUBE]:
            for at in range(20):
                some = [letter for letter in letters_of(shape) if chance.random() < 0.5]
                mixed = some + some[::2]
                chance.shuffle(mixed)
                test = test_for(shape, mixed)
                self.assertIs(is_test(shape, test), True)
                self.assertEqual(letters_by(shape, test), some)
                others = [letter for letter in letters_of(shape) if letter not in some]
                self.assertEqual(letters_by(shape, ("not", test)), others)
                self.assertEqual(does(shape, test), [[one] if one in some else [] for one in letters_of(shape)])

    def test_what_was_told_may_be_handed_in(self):
        test = test_for(CUBE, letters_of(CUBE))
        self.assertIsNone(parted_at(CUBE, test, YES))
        self.assertEqual(len(machine_of(CUBE, test)), 1)
        self.assertEqual(letters_by(CUBE, turned_saying(CUBE, test)), letters_of(CUBE))
        self.assertEqual(test_for(CUBE, letters_by(CUBE, test)), test)
        self.assertEqual(test_for((2,), does((2,), any_letter((2,)))[0]), test_for((2,), letters_of((2,))))
        self.assertEqual(test_for((2, 2), letters_of((2, 2)) * 500), test_for((2, 2), letters_of((2, 2))))


class RefusedTest(unittest.TestCase):
    def test_no_shape_first(self):
        for shape in NO_SHAPES:
            for thing in [YES, None, (), [], [(0,)], [(0, 0)], "yes", ["yes"], ("maybe",)]:
                for tell in (turned_saying, letters_by, test_for):
                    with self.assertRaises(NoShape, msg=repr(shape)):
                        tell(shape, thing)

    def test_no_saying(self):
        for thing in NO_SAYINGS:
            with self.assertRaises(NoSaying, msg=repr(thing)):
                turned_saying((2, 2), thing)

    def test_no_test(self):
        for thing in NO_SAYINGS + [NOTE, ("put", 0, 0), ("again", YES), ("then", YES, NOTE),
                                   ("either", ("put", 1, 1), NO), ("not", ("then", YES, NOTE)), ("then", ("again", YES), YES), count_on((2, 2)),
                                   put_all((0, 0))]:
            with self.assertRaises(NoTest, msg=repr(thing)):
                letters_by((2, 2), thing)

    def test_no_letters(self):
        for thing in NO_LETTERS:
            for letters in [[thing], [thing, (0, 0)], [(0, 0), (1, 1), thing], [(0, 0)] * 299 + [thing]]:
                with self.assertRaises(NoLetter, msg=repr(thing)):
                    test_for((2, 2), letters)

    def test_no_lists(self):
        for thing in [None, True, False, 0, 1, 10 ** 29, "", "letters", (), ((0, 0),), ((0, 0), (1, 1)), (0, 0), YES,
                      ([(0, 0)],), deep((0, 0), 18)]:
            with self.assertRaises(NoLetter, msg=repr(thing)):
                test_for((2, 2), thing)

    def test_no_tuples(self):
        for thing in NO_TUPLES:
            if thing != []:
                for tell in (turned_saying, letters_by, test_for):
                    with self.assertRaises((NoSaying, NoTest, NoLetter), msg=repr(thing)):
                        tell((2, 2), thing)

    def test_nothing_is_changed(self):
        letters = [(1, 1), (0, 0), (1, 1)]
        test_for((2, 2), letters)
        self.assertEqual(letters, [(1, 1), (0, 0), (1, 1)])
        for thing in [["yes"], [(0, 0), [0, 0]], [(0, 0), (2, 0)], ("again", ["yes"]), [[], []]]:
            before = copy.deepcopy(thing)
            for tell in (turned_saying, letters_by, test_for):
                with self.assertRaises(ValueError):
                    tell((2, 2), thing)
                with self.assertRaises(NoShape):
                    tell([2, 2], thing)
                self.assertEqual(thing, before)

    def test_what_is_handed_in_may_be_changed_behind_the_call(self):
        letters = [(1, 1), (0, 0)]
        told = test_for((2, 2), letters)
        letters.clear()
        self.assertEqual(letters_by((2, 2), told), [(0, 0), (1, 1)])
        self.assertEqual(lists_in(told), [])
        self.assertEqual(test_for((2, 2), letters), NO)


if __name__ == "__main__":
    unittest.main()
