import unittest

from roadsay.errors import NoCount, NoLetter, NoSaying, NoShape
from roadsay.least import least_machine, trail_count
from roadsay.letters import letters_of
from roadsay.pairs import parted_at
from roadsay.turned import turned_saying

import oracle
import oracle_trails
from oracle_trails import some_pairs
from things import (CUBE, FIRST, LAST, LONG_ROUND, LONG_SHORT, NO_COUNTS, NO_LETTERS, NO_SAYINGS, NO_SHAPES, ROUND,
                    any_letter, count_on, is_all, lists_in, then_all)

YES, NO, NOTE = ("yes",), ("no",), ("note",)
TO_A, TO_B = ("put", 0, 0), ("put", 0, 1)
IS_A, IS_B = ("is", 0, 0), ("is", 0, 1)
A, B = (0,), (1,)


class LeastTest(unittest.TestCase):
    def tells(self, saying, starts, rows, shape=(2,)):
        told = least_machine(shape, saying)
        self.assertEqual(told, (starts, rows))
        self.assertEqual((type(told), type(told[0]), type(told[1])), (tuple, list, list))
        for row in told[1]:
            self.assertEqual((type(row), type(row[0]), type(row[1])), (tuple, list, list))

    def test_without_a_note(self):
        self.tells(YES, [0, 1], [([A], []), ([B], [])])
        self.tells(NO, [None, None], [])
        self.tells(IS_A, [0, None], [([A], [])])
        self.tells(IS_B, [None, 0], [([B], [])])
        self.tells(TO_B, [0, 0], [([B], [])])
        self.tells(any_letter((2,)), [0, 0], [([A, B], [])])
        self.tells(("again", TO_B), [0, 1], [([A, B], []), ([B], [])])

    def test_one_note(self):
        # The rest behind the note of A is {(A,)}: no rest of a single letter.
        self.tells(NOTE, [0, 1], [([], [(A, 2)]), ([], [(B, 3)]), ([A], []), ([B], [])])
        self.tells(("then", TO_B, NOTE), [0, 0], [([], [(B, 1)]), ([B], [])])
        self.tells(("then", NOTE, TO_B), [0, 1], [([], [(A, 2)]), ([], [(B, 2)]), ([B], [])])
        self.tells(("then", IS_B, NOTE), [None, 0], [([], [(B, 1)]), ([B], [])])

    def test_a_rest_may_be_that_of_a_single_letter(self):
        self.tells(("again", NOTE), [0, 1], [([A], [(A, 0)]), ([B], [(B, 1)])])
        self.tells(("again", ("then", NOTE, TO_B)), [0, 1], [([A], [(A, 1)]), ([B], [(B, 1)])])
        self.tells(("either", YES, ("then", TO_B, ("then", NOTE, TO_A))), [0, 1],
                   [([A], [(B, 2)]), ([B], [(B, 2)]), ([A], [])])
        self.tells(("either", IS_B, ("then", IS_A, then_all([NOTE, TO_B]))), [0, 1], [([], [(A, 1)]), ([B], [])])

    def test_rests_that_are_empty_have_no_number(self):
        self.tells(("then", NOTE, NO), [None, None], [])
        self.tells(("then", ("again", NOTE), NO), [None, None], [])
        self.tells(("either", YES, ("then", ("again", NOTE), NO)), [0, 1], [([A], []), ([B], [])])
        self.tells(("then", NOTE, IS_B), [None, 0], [([], [(B, 1)]), ([B], [])])
        self.tells(then_all([any_letter((2,)), NOTE, IS_B, NOTE]), [0, 0], [([], [(B, 1)]), ([], [(B, 2)]), ([B], [])])

    def test_numbers_as_the_rests_first_come(self):
        saying = then_all([any_letter((2,)), NOTE, ("either", ("then", IS_A, ("then", TO_B, NOTE)), TO_A)])
        # First that of the letters; behind the note of A, of B; then that behind the second note.
        self.tells(saying, [0, 0], [([], [(A, 1), (B, 2)]), ([A], [(B, 3)]), ([A], []), ([B], [])])
        count = then_all([NOTE, ("not", ("is", 0, 2)), count_on((3,)), NOTE])
        self.tells(count, [0, 1, None],
                   [([], [((0,), 2)]), ([], [((1,), 3)]), ([], [((1,), 4)]), ([], [((2,), 5)]), ([(1,)], []),
                    ([(2,)], [])], (3,))
        late = ("either", ("then", IS_A, then_all([NOTE, NOTE, TO_A])), ("then", IS_B, then_all([NOTE, TO_B])))
        self.tells(late, [0, 1], [([], [(A, 2)]), ([], [(B, 3)]), ([], [(A, 4)]), ([B], []), ([A], [])])

    def test_several_fields(self):
        saying = ("then", ("is", 0, 1), ("again", ("then", ("put", 1, 0), NOTE)))
        self.tells(saying, [None, None, 0, 1], [([(1, 0)], [((1, 0), 0)]), ([(1, 1)], [((1, 0), 0)])], (2, 2))
        self.tells(("again", NOTE), [0], [([(0, 0, 0)], [((0, 0, 0), 0)])], (1, 1, 1))

    def test_lasts_and_nexts_are_rising(self):
        saying = ("again", ("then", NOTE, any_letter(CUBE)))
        starts, rows = least_machine(CUBE, saying)
        letters = letters_of(CUBE)
        self.assertEqual(starts, list(range(27)))
        # Behind a note each letter may come, whichever was noted: one more rest.
        self.assertEqual(len(rows), 28)
        self.assertEqual(rows[3], ([letters[3]], [(letters[3], 27)]))
        self.assertEqual(rows[27], (letters, [(letter, 27) for letter in letters]))

    def test_the_told_lists_are_all_different_ones(self):
        for saying in [NOTE, YES, TO_B, ("again", NOTE), any_letter((2, 2)), NO, ("then", any_letter((2, 2)), NOTE)]:
            lists = lists_in(least_machine((2, 2), saying))
            self.assertEqual(len({id(one) for one in lists}), len(lists))

    def test_the_told_lists_are_the_askers_own(self):
        told = least_machine((2,), ("again", NOTE))
        kept = least_machine((2,), ("again", NOTE))
        wanted = ([0, 1], [([A], [(A, 0)]), ([B], [(B, 1)])])
        told[0].clear()
        told[1][0][0].append("more")
        told[1][1][1].clear()
        told[1].pop()
        self.assertEqual(kept, wanted)
        self.assertEqual(least_machine((2,), ("again", NOTE)), wanted)

    def test_many_sayings(self):
        for shape, many in [((1,), 60), ((2,), 200), ((4,), 40), ((2, 2), 100), ((2, 1, 2), 40), ((3, 2), 30)]:
            for saying in oracle.some_sayings(shape, many, 41):
                self.assertEqual(least_machine(shape, saying), oracle_trails.least(shape, saying), (shape, saying))

    def test_alike_told_alike_and_others_not(self):
        so = {True: 0, False: 0}
        for shape, one, other in some_pairs():
            mine, theirs = (oracle_trails.tuples_of(shape, saying, 2) for saying in (one, other))
            alike = least_machine(shape, one) == least_machine(shape, other)
            self.assertEqual(alike, parted_at(shape, one, other) is None, (shape, one, other))
            if mine != theirs:
                self.assertFalse(alike)
            so[alike] += 1
        self.assertGreater(min(so.values()), 100)

    def test_rests_that_part_after_many_notes(self):
        starts, rows = least_machine(CUBE, ("then", ROUND, is_all(LAST)))
        # One rest for each letter of the round; the last one is where it may end.
        self.assertEqual(starts, [0] * 27)
        letters = letters_of(CUBE)
        self.assertEqual(rows, [([LAST] if at == 26 else [], [(letters[at], (at + 1) % 27)]) for at in range(27)])
        starts, rows = least_machine(CUBE, ("then", LONG_ROUND, is_all(LAST)))
        self.assertEqual((starts, len(rows)), ([0] * 27, 135))
        self.assertEqual([at for at in range(135) if rows[at][0]], [130])
        self.assertEqual(rows[134], ([], [(LAST, 0)]))
        starts, rows = least_machine(CUBE, LONG_SHORT)
        self.assertEqual((starts, len(rows)), ([0] * 27, 131))
        self.assertEqual(rows[130], ([LAST], []))

    def test_the_same_by_very_many_states(self):
        back = [any_letter(CUBE), NOTE] * 4 + [any_letter(CUBE)]
        saying = then_all([("again", ("then", any_letter(CUBE), NOTE)), ("is", 0, 1)] + back)
        starts, rows = least_machine(CUBE, saying)
        # What stays of up to four notes is whether field 0 was 1, letter by letter.
        self.assertEqual(len(set(starts)), 2)
        self.assertEqual(len(rows), 32)
        self.assertEqual((starts, rows), least_machine(CUBE, turned_saying(CUBE, turned_saying(CUBE, saying))))


class CountTest(unittest.TestCase):
    def test_no_notes(self):
        self.assertEqual(trail_count((2,), YES, A, 0), 1)
        self.assertEqual(trail_count((2,), NO, A, 0), 0)
        self.assertEqual(trail_count((2,), NOTE, A, 0), 0)
        self.assertEqual(trail_count((2,), any_letter((2,)), A, 0), 2)
        self.assertEqual(trail_count(CUBE, any_letter(CUBE), FIRST, 0), 27)
        self.assertEqual(trail_count((2,), ("again", NOTE), B, 0), 1)

    def test_just_so_many(self):
        three = then_all([NOTE, NOTE, NOTE])
        self.assertEqual([trail_count((2,), three, A, many) for many in range(6)], [0, 0, 0, 1, 0, 0])
        twos = ("again", ("then", NOTE, NOTE))
        self.assertEqual([trail_count((2,), twos, A, many) for many in range(7)], [1, 0, 1, 0, 1, 0, 1])
        every = ("again", ("then", NOTE, any_letter((3,))))
        self.assertEqual([trail_count((3,), every, (1,), many) for many in range(5)], [1, 3, 9, 27, 81])

    def test_a_letter_without_a_trail(self):
        saying = ("then", IS_B, ("again", NOTE))
        for many in (0, 1, 5, 200):
            self.assertEqual(trail_count((2,), saying, A, many), 0)
            self.assertEqual(trail_count((2,), saying, B, many), 1)
            self.assertEqual(trail_count((2,), NO, A, many), 0)

    def test_the_same_trail_by_two_ways_counts_once(self):
        for saying in [("again", ("either", NOTE, NOTE)), ("again", ("again", NOTE)),
                       ("then", ("again", NOTE), ("again", NOTE)),
                       ("again", ("either", NOTE, ("then", NOTE, ("again", NOTE))))]:
            for many in (0, 1, 2, 7, 200):
                self.assertEqual(trail_count((2,), saying, A, many), 1, saying)
        two = ("either", ("then", NOTE, TO_B), ("then", NOTE, any_letter((2,))))
        self.assertEqual(trail_count((2,), two, A, 1), 2)

    def test_two_hundred_notes(self):
        every = ("again", ("then", any_letter(CUBE), NOTE))
        self.assertEqual(trail_count(CUBE, every, FIRST, 200), 27 ** 200)
        self.assertEqual(trail_count(CUBE, ("then", every, any_letter(CUBE)), FIRST, 200), 27 ** 201)
        self.assertEqual(trail_count(CUBE, ROUND, LAST, 200), 1)
        self.assertEqual(trail_count(CUBE, LONG_ROUND, LAST, 200), 1)
        self.assertEqual(trail_count(CUBE, LONG_ROUND, LAST, 199), 0)
        self.assertEqual(trail_count(CUBE, LONG_SHORT, LAST, 130), 1)
        self.assertEqual(trail_count(CUBE, LONG_SHORT, LAST, 135), 0)

    def test_rows_without_two_like_ones_side_by_side(self):
        # B is never noted twice side by side, so there are as many rows as Fibonacci's numbers tell.
        saying = ("then", TO_A, ("again", ("either", ("then", TO_A, NOTE), then_all([IS_A, TO_B, NOTE]))))
        saying = ("then", saying, TO_A)
        low, high = 1, 2
        for many in range(201):
            self.assertEqual(trail_count((2,), saying, B, many), low)
            low, high = high, low + high

    def test_a_place_remembered(self):
        # Noted rows of letters where field 0 of the fifth one from the end is 1.
        back = [any_letter(CUBE), NOTE] * 4 + [any_letter(CUBE)]
        saying = then_all([("again", ("then", any_letter(CUBE), NOTE)), ("is", 0, 1)] + back)
        self.assertEqual(trail_count(CUBE, saying, FIRST, 200), 27 ** 195 * 9 * 27 ** 5)
        self.assertEqual(trail_count(CUBE, saying, FIRST, 4), 0)
        self.assertEqual(trail_count(CUBE, saying, LAST, 3), 0)
        self.assertEqual(trail_count(CUBE, saying, (1, 0, 0), 4), 27 ** 5)

    def test_many_sayings(self):
        for shape, many, most in [((1,), 40, 6), ((2,), 120, 4), ((3,), 60, 3), ((2, 2), 60, 3), ((2, 1, 2), 60, 2)]:
            for saying in oracle.some_sayings(shape, many, 43):
                for letter in letters_of(shape):
                    trails = oracle_trails.trails(saying, letter, most)
                    for notes in range(most + 1):
                        some = [trail for trail in trails if len(trail) == notes + 1]
                        self.assertEqual(trail_count(shape, saying, letter, notes), len(some), (shape, saying, letter))

    def test_a_number_is_told(self):
        for saying in [YES, NO, ("again", NOTE)]:
            self.assertIs(type(trail_count((2,), saying, A, 0)), int)
            self.assertIs(type(trail_count((2,), saying, A, 3)), int)


class RefusedTest(unittest.TestCase):
    def test_no_shape_first(self):
        for shape in NO_SHAPES:
            for saying, letter, many in [(YES, (0,), 0), (None, None, None), (NOTE, (0, 0, 0), 4), ((), (), -1)]:
                with self.assertRaises(NoShape, msg=repr(shape)):
                    trail_count(shape, saying, letter, many)
                with self.assertRaises(NoShape, msg=repr(shape)):
                    least_machine(shape, saying)

    def test_then_no_saying(self):
        for saying in NO_SAYINGS:
            for letter, many in [((0, 0), 0), (None, None), ((0, 2), 201), ((0, 0), True)]:
                with self.assertRaises(NoSaying, msg=repr(saying)):
                    trail_count((2, 2), saying, letter, many)
            with self.assertRaises(NoSaying, msg=repr(saying)):
                least_machine((2, 2), saying)

    def test_then_no_letter(self):
        for letter in NO_LETTERS:
            for saying, many in [(YES, 0), (NO, None), (("again", NOTE), 200), (YES, 201)]:
                with self.assertRaises(NoLetter, msg=repr(letter)):
                    trail_count((2, 2), saying, letter, many)

    def test_then_no_count(self):
        for many in NO_COUNTS:
            for saying in [YES, NO, ("again", NOTE)]:
                with self.assertRaises(NoCount, msg=repr(many)):
                    trail_count((2, 2), saying, (0, 0), many)

    def test_nothing_is_changed(self):
        shape, saying, letter, many = [2, 2], ["yes"], [0, 0], [1]
        for told in [(shape, YES, (0, 0), 1), ((2, 2), saying, (0, 0), 1), ((2, 2), ("again", saying), (0, 0), 1),
                     ((2, 2), YES, letter, 1), ((2, 2), YES, (0, letter), 1), ((2, 2), YES, (0, 0), many)]:
            with self.assertRaises(ValueError):
                trail_count(*told)
        with self.assertRaises(NoSaying):
            least_machine((2, 2), ("again", saying))
        self.assertEqual((shape, saying, letter, many), ([2, 2], ["yes"], [0, 0], [1]))


if __name__ == "__main__":
    unittest.main()
