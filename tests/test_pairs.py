import copy
import random
import unittest

from roadsay.errors import NoSaying, NoShape
from roadsay.letters import letters_of
from roadsay.pairs import judge_pairs, pairs_of, parted_at, shared_at, within_at
from roadsay.turned import turned_saying

import oracle
import oracle_trails
from oracle_trails import some_pairs
from things import (CUBE, FIRST, LAST, LONG_ROUND, LONG_SHORT, NO_SAYINGS, NO_SHAPES, ROUND, SHORT, any_letter,
                    count_on, count_parts, deep, either_all, is_all, put_all, then_all)

YES, NO, NOTE = ("yes",), ("no",), ("note",)
TO_A, TO_B = ("put", 0, 0), ("put", 0, 1)
IS_A, IS_B = ("is", 0, 0), ("is", 0, 1)
A, B = (0,), (1,)
BEGIN = [(A, (0,), (0,)), (B, (0,), (0,))]


class PairsOfTest(unittest.TestCase):
    def tells(self, one, other, pairs, shape=(2,)):
        told = pairs_of(shape, one, other)
        self.assertEqual(told, pairs)
        self.assertIs(type(told), list)
        for pair in told:
            self.assertEqual([type(pair)] + [type(part) for part in pair], [tuple] * 4)

    def test_pairs_that_begin(self):
        self.tells(YES, NO, BEGIN)
        self.tells(TO_A, ("again", TO_B), BEGIN)
        self.tells(("then", NO, NOTE), ("then", ("then", NO, NOTE), NOTE), BEGIN)
        self.tells(YES, YES, [(letter, (0,), (0,)) for letter in letters_of((2, 3))], (2, 3))

    def test_pairs_that_belong(self):
        self.tells(NOTE, NOTE, [(A, (0,), (0,)), (A, (1,), (1,)), (B, (0,), (0,)), (B, (1,), (1,))])
        self.tells(("then", TO_B, NOTE), ("then", TO_B, NOTE), BEGIN + [(B, (1,), (1,))])
        self.tells(("again", NOTE), ("then", NOTE, NOTE),
                   [(A, (0,), (0,)), (A, (1,), ()), (A, (1,), (1,)), (A, (1,), (2,)),
                    (B, (0,), (0,)), (B, (1,), ()), (B, (1,), (1,)), (B, (1,), (2,))])

    def test_a_side_that_is_empty_but_never_both(self):
        self.tells(NOTE, YES, [(A, (0,), (0,)), (A, (1,), ()), (B, (0,), (0,)), (B, (1,), ())])
        self.tells(YES, NOTE, [(A, (), (1,)), (A, (0,), (0,)), (B, (), (1,)), (B, (0,), (0,))])
        self.tells(("then", TO_A, NOTE), ("then", TO_B, NOTE), [BEGIN[0], (A, (1,), ()), (B, (), (1,)), BEGIN[1]])
        self.tells(("then", IS_A, NOTE), ("then", IS_B, NOTE), [BEGIN[0], (A, (1,), ()), (B, (), (1,)), BEGIN[1]])

    def test_several_states_on_a_side(self):
        self.tells(("either", NOTE, ("either", NOTE, NOTE)), NOTE,
                   [(A, (0,), (0,)), (A, (1, 2, 3), (1,)), (B, (0,), (0,)), (B, (1, 2, 3), (1,))])
        self.tells(("then", ("again", NOTE), NOTE), ("either", ("then", NO, NOTE), NOTE),
                   [(A, (0,), (0,)), (A, (1, 2), ()), (A, (1, 2), (2,)), (B, (0,), (0,)), (B, (1, 2), ()),
                    (B, (1, 2), (2,))])

    def test_states_come_with_the_letter_that_they_need(self):
        # Of A the first note comes with A only, the second one with B only.
        saying = ("either", ("then", IS_A, NOTE), ("then", TO_B, NOTE))
        self.tells(saying, NO, [(A, (0,), (0,)), (A, (1,), ()), (B, (0,), (0,)), (B, (2,), ())])

    def test_of_a_saying_and_itself(self):
        for shape in [(2,), (2, 2)]:
            for saying in oracle.some_sayings(shape, 60, 31):
                told = pairs_of(shape, saying, saying)
                self.assertEqual(told, oracle_trails.pairs(shape, saying, saying))
                self.assertEqual([ones for letter, ones, others in told], [others for letter, ones, others in told])

    def test_again_and_five_notes(self):
        turns = ("either", NOTE, ("then", count_on((2, 2)), NOTE))
        one = ("again", then_all([turns, turns, NOTE]))
        other = ("then", ("again", ("then", any_letter((2, 2)), NOTE)), then_all([NOTE, ("is", 0, 1), NOTE, turns]))
        told = pairs_of((2, 2), one, other)
        self.assertEqual(told, oracle_trails.pairs((2, 2), one, other))
        self.assertGreater(len(told), 50)
        self.assertEqual(pairs_of((2, 2), other, one), oracle_trails.pairs((2, 2), other, one))

    def test_many_sayings(self):
        for shape, one, other in some_pairs():
            told = pairs_of(shape, one, other)
            self.assertEqual(told, oracle_trails.pairs(shape, one, other), (shape, one, other))
            self.assertEqual(told, sorted(set(told)))

    def test_the_told_list_is_the_askers_own(self):
        told = pairs_of((2,), NOTE, YES)
        kept = pairs_of((2,), NOTE, YES)
        wanted = list(told)
        told.clear()
        self.assertEqual(kept, wanted)
        self.assertEqual(pairs_of((2,), NOTE, YES), wanted)


class PartedTest(unittest.TestCase):
    def test_the_same_put_otherwise(self):
        for one, other in [
            (YES, ("not", NO)),
            (YES, ("either", IS_A, IS_B)),
            (NO, ("then", IS_A, IS_B)),
            (NOTE, ("either", NOTE, NOTE)),
            (("again", YES), YES),
            (("again", ("again", NOTE)), ("again", NOTE)),
            (("again", NOTE), ("either", YES, ("then", NOTE, ("again", NOTE)))),
            (("then", NOTE, ("again", NOTE)), ("then", ("again", NOTE), NOTE)),
            (("then", NOTE, NO), NO),
            (("then", IS_A, TO_A), IS_A),
            (("then", TO_A, TO_B), TO_B),
            (("again", TO_B), ("either", YES, TO_B)),
            (("again", ("either", TO_A, TO_B)), any_letter((2,))),
            (("again", ("either", NOTE, TO_B)), ("then", ("again", NOTE), ("again", ("then", TO_B, ("again", NOTE))))),
            (("again", ("then", NOTE, NOTE)), ("either", YES, then_all([NOTE, ("again", ("then", NOTE, NOTE)), NOTE]))),
        ]:
            self.assertIsNone(parted_at((2,), one, other), (one, other))
            self.assertIsNone(parted_at((2,), other, one), (one, other))
            self.assertIsNone(parted_at((2,), one, one))

    def tells(self, one, other, told, shape=(2,)):
        self.assertEqual(parted_at(shape, one, other), told)
        self.assertEqual(parted_at(shape, other, one), told)
        self.assertIs(type(told[1]), tuple)

    def test_without_a_note(self):
        self.tells(YES, NO, (A, (A,)))
        self.tells(YES, IS_A, (B, (B,)))
        self.tells(TO_A, TO_B, (A, (A,)))
        self.tells(YES, TO_B, (A, (A,)))
        self.tells(("either", YES, TO_B), YES, (A, (B,)))
        self.tells(IS_A, IS_B, (A, (A,)))

    def test_the_fewest_notes_first(self):
        # The letter A parts them, too, but with a note more.
        self.tells(("either", IS_B, ("then", IS_A, NOTE)), NO, (B, (B,)))
        self.tells(("either", then_all([IS_A, NOTE, NOTE]), then_all([IS_B, NOTE])), NO, (B, (B, B)))
        self.tells(("again", NOTE), ("either", YES, NOTE), (A, (A, A, A)))

    def test_then_the_least_tuple(self):
        self.tells(NOTE, NO, (A, (A, A)))
        self.tells(("then", any_letter((2,)), NOTE), ("then", TO_A, NOTE), (A, (B, B)))
        self.tells(("then", NOTE, any_letter((2,))), ("then", NOTE, TO_A), (A, (A, B)))
        # The trail (A, B, ..) comes ahead of (B, A, ..), whichever of the sayings makes it.
        self.tells(then_all([TO_B, NOTE, TO_A, NOTE]), then_all([TO_A, NOTE, TO_B, NOTE]), (A, (A, B, B)))
        self.tells(then_all([any_letter((2,)), NOTE, any_letter((2,)), NOTE, any_letter((2,))]),
                   then_all([TO_A, NOTE, any_letter((2,)), NOTE, TO_A]), (A, (A, A, B)))

    def test_after_many_notes(self):
        self.assertLessEqual(count_parts(LONG_SHORT), 60)
        letters = letters_of(CUBE)
        self.tells(ROUND, SHORT, (FIRST, tuple(letters) + (FIRST,)), CUBE)
        many = tuple(letter for letter in letters for at in range(5))
        self.assertEqual(len(many), 135)
        self.tells(LONG_ROUND, LONG_SHORT, (FIRST, many + (FIRST,)), CUBE)

    def test_the_same_rounds(self):
        self.assertIsNone(parted_at(CUBE, LONG_ROUND, ("then", LONG_ROUND, YES)))
        self.assertIsNone(parted_at(CUBE, LONG_ROUND, turned_saying(CUBE, turned_saying(CUBE, LONG_ROUND))))

    def test_many_sayings(self):
        alike = 0
        for shape, one, other in some_pairs():
            mine, theirs = (oracle_trails.tuples_of(shape, saying, 2) for saying in (one, other))
            told = parted_at(shape, one, other)
            self.assertEqual(parted_at(shape, other, one), told)
            machines = oracle_trails.machines_of(shape, one, other)
            fit = all(oracle_trails.fits(machines, pair) for pair in oracle_trails.pairs(shape, one, other))
            self.assertEqual(told is None, fit, (shape, one, other))
            alike += fit
            if told is None or len(told[1]) <= 3 or mine != theirs:
                self.assertEqual(told, oracle_trails.first_of(mine ^ theirs), (shape, one, other))
            else:
                made = [told[1] in oracle_trails.trails(saying, told[0], len(told[1]) - 1) for saying in (one, other)]
                self.assertEqual(sorted(made), [False, True])
        self.assertGreater(alike, 100)


class WithinTest(unittest.TestCase):
    def test_all_within(self):
        for one, other in [(NO, NO), (NO, NOTE), (IS_A, YES), (YES, ("again", NOTE)), (NOTE, ("again", NOTE)),
                           (("then", NOTE, NOTE), ("again", NOTE)), (("again", ("then", NOTE, NOTE)), ("again", NOTE)),
                           (TO_B, any_letter((2,))), (("then", NOTE, NO), IS_B), (NOTE, NOTE),
                           (("then", IS_A, NOTE), NOTE)]:
            self.assertIsNone(within_at((2,), one, other), (one, other))

    def test_the_one_only(self):
        self.assertEqual(within_at((2,), YES, NO), (A, (A,)))
        self.assertEqual(within_at((2,), YES, IS_A), (B, (B,)))
        self.assertEqual(within_at((2,), any_letter((2,)), TO_A), (A, (B,)))
        self.assertEqual(within_at((2,), any_letter((2,)), TO_B), (A, (A,)))
        # What the other makes alone is no matter, be it of fewer notes.
        self.assertEqual(within_at((2,), NOTE, YES), (A, (A, A)))
        self.assertEqual(within_at((2,), YES, NOTE), (A, (A,)))
        self.assertEqual(within_at((2,), ("again", NOTE), ("again", ("then", NOTE, NOTE))), (A, (A, A)))
        self.assertEqual(within_at((2,), ("again", ("then", NOTE, NOTE)), ("either", YES, NOTE)), (A, (A, A, A)))
        self.assertEqual(within_at((2,), TO_B, TO_A), (A, (B,)))
        self.assertEqual(within_at((2,), TO_A, TO_B), (A, (A,)))

    def test_the_fewest_notes_then_the_least_tuple(self):
        self.assertEqual(within_at((2,), ("either", then_all([IS_A, NOTE, NOTE]), then_all([IS_B, NOTE])), NO),
                         (B, (B, B)))
        every = then_all([any_letter((2,)), NOTE, any_letter((2,)), NOTE])
        self.assertEqual(within_at((2,), every, NO), (A, (A, A, A)))
        self.assertEqual(within_at((2,), every, then_all([TO_A, NOTE, TO_A, NOTE])), (A, (A, B, B)))
        self.assertEqual(within_at((2,), every, then_all([TO_A, NOTE, any_letter((2,)), NOTE])), (A, (B, A, A)))

    def test_one_is_lacked_only_after_many_notes(self):
        letters = letters_of(CUBE)
        self.assertEqual(within_at(CUBE, ROUND, SHORT), (FIRST, tuple(letters) + (FIRST,)))
        self.assertIsNone(within_at(CUBE, SHORT, ROUND))
        many = tuple(letter for letter in letters for at in range(5))
        self.assertEqual(within_at(CUBE, LONG_ROUND, LONG_SHORT), (FIRST, many + (FIRST,)))
        self.assertIsNone(within_at(CUBE, LONG_SHORT, LONG_ROUND))


class SharedTest(unittest.TestCase):
    def test_none_shared(self):
        for one, other in [(NO, YES), (NO, NO), (YES, NOTE), (IS_A, IS_B), (TO_A, TO_B), (NOTE, ("then", NOTE, NOTE)),
                           (("then", NOTE, TO_A), ("then", NOTE, TO_B)), (("then", TO_A, NOTE), ("then", TO_B, NOTE)),
                           (("then", ("again", NOTE), NO), ("again", NOTE)),
                           (("again", ("then", NOTE, NOTE)), ("then", NOTE, ("again", ("then", NOTE, NOTE))))]:
            self.assertIsNone(shared_at((2,), one, other), (one, other))
            self.assertIsNone(shared_at((2,), other, one), (one, other))

    def tells(self, one, other, told, shape=(2,)):
        self.assertEqual(shared_at(shape, one, other), told)
        self.assertEqual(shared_at(shape, other, one), told)

    def test_some_shared(self):
        self.tells(YES, YES, (A, (A,)))
        self.tells(YES, TO_B, (B, (B,)))
        self.tells(IS_B, YES, (B, (B,)))
        self.tells(any_letter((2,)), TO_B, (A, (B,)))
        self.tells(("again", NOTE), NOTE, (A, (A, A)))
        self.tells(("again", NOTE), ("then", IS_B, NOTE), (B, (B, B)))
        self.tells(("then", NOTE, ("again", NOTE)), then_all([NOTE, NOTE, NOTE]), (A, (A, A, A, A)))

    def test_the_fewest_notes_then_the_least_tuple(self):
        self.tells(("either", then_all([IS_A, NOTE, NOTE]), then_all([IS_B, NOTE])), ("again", NOTE), (B, (B, B)))
        every = then_all([any_letter((2,)), NOTE, any_letter((2,)), NOTE, any_letter((2,))])
        self.tells(every, every, (A, (A, A, A)))
        self.tells(every, then_all([TO_B, NOTE, any_letter((2,)), NOTE, TO_B]), (A, (B, A, B)))

    def test_shared_only_after_many_notes(self):
        # From the first letter of the cube to the last one there are 26 notes, or 27 more each time; 80 are in fives.
        one = ("then", ROUND, is_all(LAST))
        other = ("again", then_all([any_letter(CUBE), NOTE] * 5 + [any_letter(CUBE)]))
        letters = letters_of(CUBE)
        told = (FIRST, tuple((letters * 3)[:80]) + (LAST,))
        self.tells(one, other, told, CUBE)
        self.assertEqual(len(told[1]), 81)
        # From the first letter back to it there are 27 notes each time: never one more than some threes.
        threes = ("then", NOTE, ("again", then_all([any_letter(CUBE), NOTE] * 3 + [any_letter(CUBE)])))
        self.assertIsNone(shared_at(CUBE, ("then", ROUND, is_all(FIRST)), ("then", put_all(FIRST), threes)))

    def test_many_sayings(self):
        for shape, one, other in some_pairs():
            mine, theirs = (oracle_trails.tuples_of(shape, saying, 2) for saying in (one, other))
            for tell, some in [(within_at, mine - theirs), (shared_at, mine & theirs)]:
                told = tell(shape, one, other)
                if some or told is None or len(told[1]) <= 3:
                    self.assertEqual(told, oracle_trails.first_of(some), (tell, shape, one, other))
            parted = parted_at(shape, one, other)
            both = [within_at(shape, one, other), within_at(shape, other, one)]
            self.assertEqual(parted, oracle_trails.first_of([told for told in both if told is not None]))


class JudgeTest(unittest.TestCase):
    """The two sayings are alike: notes as many as one likes."""

    ONE = ("again", NOTE)
    OTHER = ("either", YES, ("then", NOTE, ("again", NOTE)))
    PAIRS = [(A, (0,), (0,)), (A, (1,), (1,)), (A, (1,), (2,)), (B, (0,), (0,)), (B, (1,), (1,)), (B, (1,), (2,))]

    def judges(self, thing, so):
        before = copy.deepcopy(thing)
        self.assertIs(judge_pairs((2,), self.ONE, self.OTHER, thing), so, thing)
        self.assertEqual(thing, before)

    def test_what_pairs_of_tells(self):
        self.assertEqual(pairs_of((2,), self.ONE, self.OTHER), self.PAIRS)
        self.judges(self.PAIRS, True)

    def test_in_any_order_some_twice(self):
        self.judges(self.PAIRS[::-1], True)
        self.judges(self.PAIRS[3:] + self.PAIRS[:3], True)
        self.judges(self.PAIRS + self.PAIRS, True)
        self.judges(self.PAIRS[2:] + self.PAIRS[:4] + self.PAIRS[1:2] * 280, True)

    def test_one_left_out(self):
        for at in range(len(self.PAIRS)):
            self.judges(self.PAIRS[:at] + self.PAIRS[at + 1:], False)
        self.judges([], False)

    def test_one_more_that_fits(self):
        # Its follower (A, (1,), (2,)) is there.
        self.judges(self.PAIRS + [(A, (0,), (2,))], True)
        self.judges([(B, (0, 1), (0, 1, 2))] + self.PAIRS, False)
        # Of the states 0 and 1 of the other one come both notes, and behind these the second one.
        self.judges([(B, (0, 1), (0, 1, 2)), (B, (1,), (1, 2))] + self.PAIRS, True)
        self.judges(self.PAIRS + [(A, (1,), (1, 2))], True)

    def test_one_more_that_does_not_fit(self):
        for pair in [(A, (0,), ()), (A, (), (0,)), (B, (1,), ()), (B, (), (1, 2))]:
            self.judges(self.PAIRS + [pair], False)

    def test_what_is_no_pair_of_these_sayings(self):
        for pair in [
            (A, (2,), (1,)), (A, (1,), (3,)), (A, (-1,), (1,)), (A, (1,), (-1,)), (A, (1,), (10 ** 29,)),
            (A, (0, 2), (1,)), (A, (1,), (1, 3)),
            (A, (1, 0), (1,)), (A, (1,), (2, 1)), (A, (1,), (1, 1)), (A, (0, 0), (0,)), (A, (1, 0, 1), (1,)),
            ((2,), (1,), (1,)), ((-1,), (1,), (1,)), ((), (1,), (1,)), ((0, 0), (1,), (1,)), ([0], (1,), (1,)),
            (0, (1,), (1,)), (None, (1,), (1,)), ("0", (1,), (1,)), (("0",), (1,), (1,)), (((0,),), (1,), (1,)),
            (A, (), ()),
            ((True,), (1,), (1,)), ((False,), (1,), (1,)), (A, (True,), (1,)), (A, (1,), (True,)), (A, (False,), (0,)),
            (A, (0, True), (0,)), (A, (0,), (False, 2)),
            [A, (1,), (1,)], (A, [1], (1,)), (A, (1,), [1]), (A, [], (1,)), (A, (1,), []), [A, [1], [1]],
            (A, (1,)), (A,), (), (A, (1,), (1,), (1,)), (A, (1,), (1,), ()), (A, (1,), (1,), None),
            (A, 1, 1), (A, 1, (1,)), (A, (1,), 1), (A, None, (1,)), (A, "1", (1,)), (A, ("1",), (1,)),
            (A, ((1,),), (1,)), (A, (1,), ((1,),)), (A, (None,), (1,)), (A, (1,), ([1],)), (A, (1,) * 300, (1,)),
            (A, deep(1, 18), (1,)), (deep(0, 18), (1,), (1,)),
            None, True, False, 0, 1, "", "pair", [], A, deep(A, 18),
        ]:
            self.judges(self.PAIRS + [pair], False)
            self.judges([pair] + self.PAIRS, False)
            self.judges([pair], False)

    def test_truths_in_place_of_numbers(self):
        # Python takes True for 1 where it compares; no pair may be taken for there by such a thing.
        for at in range(len(self.PAIRS)):
            letter, ones, others = self.PAIRS[at]
            for pair in [((bool(letter[0]),), ones, others), (letter, (bool(ones[0]),), others)]:
                self.judges(self.PAIRS[:at] + [pair] + self.PAIRS[at + 1:], False)
                self.judges(self.PAIRS + [pair], False)

    def test_things_that_are_no_list(self):
        for thing in [None, True, False, 0, 1, 10 ** 29, "", "pairs", (), tuple(self.PAIRS), (self.PAIRS,),
                      self.PAIRS[0], deep(A, 18)]:
            self.judges(thing, False)
        for thing in [[self.PAIRS], [tuple(self.PAIRS)], [[]], [None], deep(self.PAIRS, 16), [self.PAIRS, self.PAIRS]]:
            self.judges(thing, False)

    def test_sayings_that_are_not_alike(self):
        for one, other in [(YES, NO), (NOTE, YES), (self.ONE, NOTE), (TO_A, TO_B)]:
            told = pairs_of((2,), one, other)
            self.assertIs(judge_pairs((2,), one, other, told), False)
            machines = oracle_trails.machines_of((2,), one, other)
            some = [pair for pair in told if oracle_trails.fits(machines, pair)]
            self.assertIs(judge_pairs((2,), one, other, some), False)

    def test_the_sides_are_not_to_be_changed_about(self):
        self.assertIs(judge_pairs((2,), self.OTHER, self.ONE, self.PAIRS), False)
        turned = [(letter, others, ones) for letter, ones, others in self.PAIRS]
        self.assertIs(judge_pairs((2,), self.OTHER, self.ONE, turned), True)

    def test_many_sayings(self):
        chance = random.Random(37)
        let_by = 0
        for shape, one, other in some_pairs():
            told = pairs_of(shape, one, other)
            letters = oracle.letters(shape)
            states = [range(oracle.count_notes(saying) + 1) for saying in (one, other)]
            self.assertIs(judge_pairs(shape, one, other, told), oracle_trails.judges(shape, one, other, told))
            for at in range(4):
                some = [tuple(state for state in side if chance.random() < 0.5) for side in states]
                more = [(chance.choice(letters), some[0], some[1])] if some[0] or some[1] else []
                things = told + more
                chance.shuffle(things)
                so = oracle_trails.judges(shape, one, other, things)
                self.assertIs(judge_pairs(shape, one, other, things), so, (shape, one, other, things))
                let_by += so and things != told and set(things) != set(told)
        self.assertGreater(let_by, 20)

    def test_a_long_list_that_was_told(self):
        # Told lists may have far more than 300 parts.
        register = then_all([any_letter(CUBE), NOTE, any_letter(CUBE), NOTE, any_letter(CUBE), NOTE, any_letter(CUBE)])
        one = ("then", ("again", ("then", any_letter(CUBE), NOTE)), ("then", ("is", 0, 1), register))
        other = ("then", one, YES)
        told = pairs_of(CUBE, one, other)
        self.assertGreater(len(told), 200)
        self.assertIs(judge_pairs(CUBE, one, other, told), True)
        self.assertIs(judge_pairs(CUBE, one, other, told[:-1]), False)
        self.assertIs(judge_pairs(CUBE, one, other, told * 20), True)


class RefusedTest(unittest.TestCase):
    ALL = [pairs_of, parted_at, within_at, shared_at, lambda shape, one, other: judge_pairs(shape, one, other, [])]

    def test_no_shape_first(self):
        for shape in NO_SHAPES:
            for one, other in [(YES, YES), (None, YES), (YES, ["yes"]), ((), ())]:
                for tell in self.ALL:
                    with self.assertRaises(NoShape, msg=repr(shape)):
                        tell(shape, one, other)

    def test_no_saying_on_either_side(self):
        for thing in NO_SAYINGS:
            for one, other in [(thing, YES), (YES, thing), (thing, thing)]:
                for tell in self.ALL:
                    with self.assertRaises(NoSaying, msg=repr(thing)):
                        tell((2, 2), one, other)

    def test_judge_pairs_refuses_whatever_the_thing_is(self):
        for thing in [None, [], [None], [((0, 0), (0,), (0,))], (), "pairs", True]:
            with self.assertRaises(NoShape):
                judge_pairs((5,), NO, NO, thing)
            with self.assertRaises(NoSaying):
                judge_pairs((2,), YES, ("is", 1, 0), thing)
            with self.assertRaises(NoSaying):
                judge_pairs((2,), ("is", 0, 2), YES, thing)

    def test_nothing_is_changed(self):
        shape, saying = [2, 2], ["yes"]
        for tell in self.ALL:
            for told in [(shape, YES, YES), ((2, 2), saying, YES), ((2, 2), YES, ("again", saying))]:
                with self.assertRaises(ValueError):
                    tell(*told)
        self.assertEqual((shape, saying), ([2, 2], ["yes"]))


class SoonTest(unittest.TestCase):
    def test_many_pairs(self):
        # What was noted up to four notes ago is remembered by the states, so there are very many pairs.
        def register(field):
            back = [any_letter(CUBE), NOTE] * 4 + [any_letter(CUBE)]
            return then_all([("again", ("then", any_letter(CUBE), NOTE)), ("is", field, 1)] + back)

        told = pairs_of(CUBE, register(0), register(1))
        self.assertGreater(len(told), 2000)
        self.assertEqual(told, sorted(set(told)))
        self.assertIs(judge_pairs(CUBE, register(0), register(1), told), False)
        self.assertEqual(len(parted_at(CUBE, register(0), register(1))[1]), 5)
        self.assertEqual(len(shared_at(CUBE, register(0), register(1))[1]), 5)
        self.assertIsNone(within_at(CUBE, register(0), ("again", ("then", any_letter(CUBE), ("either", NOTE, YES)))))
        mine = pairs_of(CUBE, register(0), ("then", register(0), YES))
        self.assertIs(judge_pairs(CUBE, register(0), ("then", register(0), YES), mine), True)

    def test_told_sayings_that_are_large(self):
        saying = either_all([then_all([is_all(letter), any_letter(CUBE)]) for letter in letters_of(CUBE)])
        for at in range(3):
            saying = turned_saying(CUBE, saying)
        self.assertGreater(count_parts(saying), 2000)
        self.assertIsNone(parted_at(CUBE, saying, any_letter(CUBE)))
        self.assertEqual(len(pairs_of(CUBE, saying, saying)), 27)


if __name__ == "__main__":
    unittest.main()
