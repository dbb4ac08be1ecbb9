import unittest

from roadsay.errors import NoSaying, NoShape
from roadsay.letters import letters_of
from roadsay.machines import machine_of

import oracle
from things import NO_SHAPES, NO_TUPLES, lists_in

YES, NO, NOTE = ("yes",), ("no",), ("note",)
TO_A, TO_B = ("put", 0, 0), ("put", 0, 1)
IS_A, IS_B = ("is", 0, 0), ("is", 0, 1)
A, B = (0,), (1,)
SAME = [(A, A), (B, B)]
ALL_B = [(A, B), (B, B)]


def to_note(pairs, note):
    return [(letter, after, note) for letter, after in pairs]


class ByHand(unittest.TestCase):
    """Machines of the shape (2,) worked out by hand, if no other shape is told."""

    def tells(self, saying, states, shape=(2,)):
        self.assertEqual(machine_of(shape, saying), states)


class WordsTest(ByHand):
    def test_yes(self):
        self.tells(YES, [(SAME, [])])

    def test_no(self):
        self.tells(NO, [([], [])])

    def test_is(self):
        self.tells(IS_A, [([(A, A)], [])])
        self.tells(IS_B, [([(B, B)], [])])

    def test_put(self):
        self.tells(TO_A, [([(A, A), (B, A)], [])])
        self.tells(TO_B, [(ALL_B, [])])

    def test_note(self):
        self.tells(NOTE, [([], to_note(SAME, 1)), (SAME, [])])

    def test_not(self):
        self.tells(("not", YES), [([], [])])
        self.tells(("not", NO), [(SAME, [])])
        self.tells(("not", IS_B), [([(A, A)], [])])
        self.tells(("not", ("not", IS_B)), [([(B, B)], [])])
        self.tells(("not", ("either", IS_A, IS_B)), [([], [])])
        self.tells(("not", ("then", IS_A, IS_B)), [(SAME, [])])

    def test_then(self):
        self.tells(("then", IS_A, TO_B), [([(A, B)], [])])
        self.tells(("then", TO_B, IS_A), [([], [])])
        self.tells(("then", TO_B, NOTE), [([], to_note(ALL_B, 1)), (SAME, [])])
        self.tells(("then", NOTE, TO_B), [([], to_note(SAME, 1)), (ALL_B, [])])

    def test_either(self):
        self.tells(("either", TO_A, TO_B), [([(A, A), (A, B), (B, A), (B, B)], [])])
        self.tells(("either", YES, YES), [(SAME, [])])
        self.tells(("either", NOTE, YES), [(SAME, to_note(SAME, 1)), (SAME, [])])
        self.tells(("either", TO_B, NOTE), [(ALL_B, to_note(SAME, 1)), (SAME, [])])

    def test_again(self):
        self.tells(("again", YES), [(SAME, [])])
        self.tells(("again", NO), [(SAME, [])])
        self.tells(("again", IS_B), [(SAME, [])])
        self.tells(("again", TO_B), [([(A, A), (A, B), (B, B)], [])])
        self.tells(("again", NOTE), [(SAME, to_note(SAME, 1)), (SAME, to_note(SAME, 1))])

    def test_again_takes_as_many_times_as_it_needs(self):
        onward = ("either", ("then", ("is", 0, 0), ("put", 0, 1)),
                  ("either", ("then", ("is", 0, 1), ("put", 0, 2)), ("then", ("is", 0, 2), ("put", 0, 3))))
        ends = [((low,), (high,)) for low in range(4) for high in range(low, 4)]
        self.tells(("again", onward), [(ends, [])], (4,))
        back = ("either", ("then", ("is", 0, 3), ("put", 0, 2)),
                ("either", ("then", ("is", 0, 2), ("put", 0, 1)), ("then", ("is", 0, 1), ("put", 0, 0))))
        ends = [((high,), (low,)) for high in range(4) for low in range(high + 1)]
        self.tells(("again", back), [(ends, [])], (4,))


class NotesTest(ByHand):
    def test_one_note_behind_another_one(self):
        self.tells(("then", NOTE, NOTE), [([], to_note(SAME, 1)), ([], to_note(SAME, 2)), (SAME, [])])

    def test_either_of_two_notes(self):
        steps = [(A, A, 1), (A, A, 2), (B, B, 1), (B, B, 2)]
        self.tells(("either", NOTE, NOTE), [([], steps), (SAME, []), (SAME, [])])

    def test_notes_are_numbered_as_they_stand_and_steps_are_rising(self):
        saying = ("either", ("then", TO_B, NOTE), ("then", TO_A, NOTE))
        self.tells(saying, [([], [(A, A, 2), (A, B, 1), (B, A, 2), (B, B, 1)]), (SAME, []), (SAME, [])])

    def test_a_note_leaped_over(self):
        saying = ("then", NOTE, ("then", ("either", NOTE, TO_B), NOTE))
        self.tells(saying, [
            ([], to_note(SAME, 1)),
            ([], [(A, A, 2), (A, B, 3), (B, B, 2), (B, B, 3)]),
            ([], to_note(SAME, 3)),
            (SAME, []),
        ])

    def test_five_notes(self):
        saying = ("then", NOTE, ("then", NOTE, ("then", NOTE, ("then", NOTE, NOTE))))
        self.tells(saying, [([], to_note(SAME, note)) for note in (1, 2, 3, 4, 5)] + [(SAME, [])])
        other_way = ("then", ("then", ("then", ("then", NOTE, NOTE), NOTE), NOTE), NOTE)
        self.tells(other_way, [([], to_note(SAME, note)) for note in (1, 2, 3, 4, 5)] + [(SAME, [])])

    def test_again_of_five_notes(self):
        saying = ("again", ("either", NOTE, ("either", NOTE, ("either", NOTE, ("either", NOTE, NOTE)))))
        steps = [(letter, letter, note) for letter in (A, B) for note in (1, 2, 3, 4, 5)]
        self.tells(saying, [(SAME, steps)] * 6)

    def test_notes_that_are_never_come_to(self):
        self.tells(("then", NO, NOTE), [([], []), (SAME, [])])
        self.tells(("then", NO, ("then", NOTE, ("then", TO_B, NOTE))),
                   [([], []), ([], to_note(ALL_B, 2)), (SAME, [])])
        self.tells(("then", NO, ("again", ("then", NOTE, TO_B))), [([], []), (ALL_B, to_note(ALL_B, 1))])

    def test_a_note_that_some_letter_never_comes_to(self):
        self.tells(("then", IS_A, ("then", NOTE, TO_B)), [([], [(A, A, 1)]), (ALL_B, [])])
        self.tells(("then", TO_B, ("then", NOTE, ("then", NOTE, YES))),
                   [([], to_note(ALL_B, 1)), ([], to_note(SAME, 2)), (SAME, [])])

    def test_a_note_behind_which_there_is_no_end(self):
        self.tells(("then", NOTE, NO), [([], to_note(SAME, 1)), ([], [])])
        self.tells(("again", ("then", NOTE, NO)), [(SAME, to_note(SAME, 1)), ([], [])])
        self.tells(("then", ("again", NOTE), NO), [([], to_note(SAME, 1)), ([], to_note(SAME, 1))])


class AgainTest(ByHand):
    def test_a_put_behind_or_ahead_of_the_note(self):
        self.tells(("again", ("then", NOTE, TO_B)), [(SAME, to_note(SAME, 1)), (ALL_B, to_note(ALL_B, 1))])
        self.tells(("again", ("then", TO_B, NOTE)), [(SAME, to_note(ALL_B, 1)), (SAME, to_note(ALL_B, 1))])

    def test_times_with_and_without_a_note(self):
        some = [(A, A), (A, B), (B, B)]
        self.tells(("again", ("either", TO_B, NOTE)), [(some, to_note(some, 1)), (some, to_note(some, 1))])

    def test_again_within_again(self):
        self.tells(("again", ("again", NOTE)), [(SAME, to_note(SAME, 1)), (SAME, to_note(SAME, 1))])
        self.tells(("again", ("again", TO_B)), [([(A, A), (A, B), (B, B)], [])])
        some = [(A, A), (A, B), (B, B)]
        self.tells(("again", ("then", ("again", NOTE), TO_B)), [(some, to_note(some, 1)), (ALL_B, to_note(some, 1))])

    def test_two_notes_by_turns(self):
        saying = ("again", ("then", ("then", IS_A, NOTE), ("then", TO_B, ("then", NOTE, TO_A))))
        self.tells(saying, [
            (SAME, [(A, A, 1)]),
            ([], [(A, B, 2), (B, B, 2)]),
            ([(A, A), (B, A)], [(A, A, 1), (B, A, 1)]),
        ])


class ShapesTest(ByHand):
    def test_two_fields(self):
        saying = ("then", ("is", 0, 0), ("then", ("put", 1, 1), ("then", NOTE, ("either", ("put", 0, 1), NOTE))))
        self.tells(saying, [
            ([], [((0, 0), (0, 1), 1), ((0, 1), (0, 1), 1)]),
            ([((0, 0), (1, 0)), ((0, 1), (1, 1)), ((1, 0), (1, 0)), ((1, 1), (1, 1))],
             [((0, 0), (0, 0), 2), ((0, 1), (0, 1), 2), ((1, 0), (1, 0), 2), ((1, 1), (1, 1), 2)]),
            ([((0, 0), (0, 0)), ((0, 1), (0, 1)), ((1, 0), (1, 0)), ((1, 1), (1, 1))], []),
        ], (2, 2))

    def test_three_fields(self):
        saying = ("again", ("then", ("not", ("is", 1, 1)), ("then", ("put", 1, 1), ("either", NOTE, ("put", 2, 1)))))
        ends = [((0, 0, 0), (0, 0, 0)), ((0, 0, 0), (0, 1, 1)), ((0, 0, 1), (0, 0, 1)), ((0, 0, 1), (0, 1, 1)),
                ((0, 1, 0), (0, 1, 0)), ((0, 1, 1), (0, 1, 1))]
        steps = [((0, 0, 0), (0, 1, 0), 1), ((0, 0, 1), (0, 1, 1), 1)]
        self.tells(saying, [(ends, steps), (ends, steps)], (1, 2, 2))

    def test_one_letter(self):
        self.tells(("again", ("either", NOTE, ("put", 0, 0))),
                   [([(A, A)], [(A, A, 1)]), ([(A, A)], [(A, A, 1)])], (1,))

    def test_each_letter_is_gone_through(self):
        for shape in [(1,), (4,), (2, 3), (4, 3, 2), (3, 3, 3)]:
            letters = letters_of(shape)
            same = [(letter, letter) for letter in letters]
            self.tells(NOTE, [([], to_note(same, 1)), (same, [])], shape)
            for field, many in enumerate(shape):
                for value in range(many):
                    put = [(letter, letter[:field] + (value,) + letter[field + 1:]) for letter in letters]
                    some = [pair for pair in same if pair[0][field] == value]
                    others = [pair for pair in same if pair[0][field] != value]
                    self.tells(("then", NOTE, ("put", field, value)), [([], to_note(same, 1)), (put, [])], shape)
                    self.tells(("is", field, value), [(some, [])], shape)
                    self.tells(("not", ("is", field, value)), [(others, [])], shape)


class OracleTest(unittest.TestCase):
    def test_many_sayings(self):
        for shape, many in [((1,), 100), ((2,), 400), ((4,), 200), ((2, 2), 400), ((1, 3), 200), ((2, 1, 2), 300),
                            ((2, 3, 2), 60), ((3, 3, 3), 25)]:
            for saying in oracle.some_sayings(shape, many, 7):
                self.assertEqual(machine_of(shape, saying), oracle.machine(shape, saying), (shape, saying))

    def test_ends_and_steps_are_rising(self):
        for saying in oracle.some_sayings((2, 2, 2), 200, 11):
            states = machine_of((2, 2, 2), saying)
            self.assertEqual(len(states), oracle.count_notes(saying) + 1)
            for ends, steps in states:
                self.assertEqual(ends, sorted(set(ends)))
                self.assertEqual(steps, sorted(set(steps)))


class WholeTest(unittest.TestCase):
    SAYING = ("again", ("either", ("then", NOTE, ("put", 0, 1)), ("then", ("is", 1, 0), NOTE)))

    def test_kinds_of_values(self):
        states = machine_of((2, 2), self.SAYING)
        self.assertIs(type(states), list)
        for state in states:
            self.assertIs(type(state), tuple)
            self.assertEqual([type(rows) for rows in state], [list, list])
            for row in state[0] + state[1]:
                self.assertIs(type(row), tuple)

    def test_no_list_stands_at_two_places(self):
        for saying in [self.SAYING, ("then", NO, ("then", NOTE, ("then", NO, NOTE))), NO, YES, NOTE,
                       ("again", ("either", NOTE, NOTE))]:
            lists = lists_in(machine_of((2, 2), saying))
            self.assertEqual(len({id(one) for one in lists}), len(lists))

    def test_the_told_lists_are_the_askers_own(self):
        told = machine_of((2, 2), self.SAYING)
        kept = machine_of((2, 2), self.SAYING)
        wanted = oracle.machine((2, 2), self.SAYING)
        for ends, steps in told:
            ends.append("more")
            steps.clear()
        told.pop()
        self.assertEqual(kept, wanted)
        self.assertEqual(machine_of((2, 2), self.SAYING), wanted)

    def test_the_same_whatever_is_asked_between(self):
        before = machine_of((2, 2), self.SAYING)
        machine_of((3, 3), self.SAYING)
        with self.assertRaises(NoSaying):
            machine_of((2,), self.SAYING)
        machine_of((2, 2), NOTE)
        self.assertEqual(machine_of((2, 2), self.SAYING), before)

    def test_what_lies_deep_or_has_many_parts(self):
        for many in (60, 300, 3000):
            saying = NOTE
            for at in range(many):
                saying = ("then", ("either", ("put", 0, at % 3), NO), ("again", saying))
            states = machine_of((3, 3, 3), saying)
            # Each put can come last; ahead of the note stands that of 0, or, by the inmost again, the note itself.
            letters = letters_of((3, 3, 3))
            ends = [(letter, (value,) + letter[1:]) for letter in letters for value in range(3)]
            first = [(letter, (0,) + letter[1:], 1) for letter in letters]
            more = sorted(set(first + [(letter, letter, 1) for letter in letters]))
            self.assertEqual(states, [(ends, first), (ends, more)])

    def test_told_soon(self):
        rest = NO
        for at in range(60):
            match = ("then", ("is", 0, at % 3), ("then", ("is", 1, at // 3 % 3), ("is", 2, at // 9 % 3)))
            changes = NO
            for more in range(64):
                changes = ("either", ("then", ("put", 0, more % 3), ("put", more // 3 % 3, more // 9 % 3)), changes)
            rest = ("either", ("then", match, changes), ("then", ("not", match), rest))
        self.assertEqual(len(machine_of((3, 3, 3), rest)), 1)


class RefusedTest(unittest.TestCase):
    def test_no_shape_comes_first(self):
        for shape in NO_SHAPES:
            for saying in [YES, ("is", 0, 0), None, ("maybe",), ["yes"]]:
                with self.assertRaises(NoShape, msg=repr(shape)):
                    machine_of(shape, saying)

    def test_no_saying(self):
        six = ("then", NOTE, ("then", NOTE, ("then", NOTE, ("then", NOTE, ("then", NOTE, NOTE)))))
        for thing in NO_TUPLES + [(), ("maybe",), ("yes", 0), ("is", 2, 0), ("is", 0, 2), ("put", 0, True), ("is", 0),
                                  ("not", NOTE), ("not", ("put", 0, 0)), ("not", ("again", YES)), ("then", YES), six]:
            with self.assertRaises(NoSaying, msg=repr(thing)):
                machine_of((2, 2), thing)

    def test_nothing_is_changed(self):
        shape = [2, 2]
        with self.assertRaises(NoShape):
            machine_of(shape, YES)
        self.assertEqual(shape, [2, 2])
        inner = ["yes"]
        with self.assertRaises(NoSaying):
            machine_of((2, 2), ("again", inner))
        self.assertEqual(inner, ["yes"])


if __name__ == "__main__":
    unittest.main()
