import copy
import unittest

from roadsay.errors import NoShape
from roadsay.sayings import is_saying, is_test

from oracle import some_sayings
from things import NO_SHAPES, NO_TUPLES

YES, NO, NOTE = ("yes",), ("no",), ("note",)
WORDS = ["yes", "no", "note", "is", "put", "then", "either", "again", "not"]


def then_all(sayings):
    told = YES
    for saying in reversed(sayings):
        told = ("then", saying, told)
    return told


def nested(word, saying, many):
    for at in range(many):
        saying = (word, saying)
    return saying


class Told(unittest.TestCase):
    def tell_saying(self, shape, thing, so):
        self.assertIs(is_saying(shape, thing), so, (shape, thing))

    def tell_test(self, shape, thing, so):
        self.assertIs(is_test(shape, thing), so, (shape, thing))

    def tell_both(self, shape, thing, so):
        self.tell_saying(shape, thing, so)
        self.tell_test(shape, thing, so)

    def tell_saying_only(self, shape, thing):
        self.tell_saying(shape, thing, True)
        self.tell_test(shape, thing, False)


class WordsTest(Told):
    def test_each_word_of_a_test(self):
        for thing in [YES, NO, ("is", 0, 1), ("then", YES, NO), ("either", NO, YES), ("not", YES), ("not", ("not", NO)),
                      ("then", ("is", 1, 0), ("not", ("either", ("is", 0, 0), ("is", 1, 1))))]:
            self.tell_both((2, 2), thing, True)

    def test_each_word_that_is_in_no_test(self):
        for thing in [NOTE, ("put", 0, 1), ("again", YES), ("then", YES, NOTE), ("then", ("put", 1, 0), YES),
                      ("either", ("again", NO), NO), ("again", ("again", ("is", 0, 0))), ("again", NOTE),
                      ("then", ("not", ("is", 0, 1)), ("put", 0, 1))]:
            self.tell_saying_only((2, 2), thing)

    def test_not_takes_tests_only(self):
        for inner in [NOTE, ("put", 0, 0), ("again", YES)]:
            self.tell_both((2, 2), ("not", inner), False)
            self.tell_both((2, 2), ("not", ("not", inner)), False)
            self.tell_both((2, 2), ("not", ("then", YES, inner)), False)
            self.tell_both((2, 2), ("not", ("then", inner, YES)), False)
            self.tell_both((2, 2), ("not", ("either", ("not", YES), inner)), False)
            self.tell_both((2, 2), ("again", ("not", inner)), False)
            self.tell_both((2, 2), ("then", ("not", inner), YES), False)

    def test_what_stands_beside_not_need_be_no_test(self):
        self.tell_saying_only((2, 2), ("either", ("not", YES), ("put", 0, 0)))
        self.tell_saying_only((2, 2), ("then", NOTE, ("not", YES)))
        self.tell_saying_only((2, 2), ("again", ("then", ("not", ("is", 0, 0)), NOTE)))

    def test_other_words(self):
        for word in ["", "Yes", "YES", "yes ", "nothing", "or", "and", "if", "while", "yesno", "a"]:
            for rest in [(), (YES,), (YES, YES), (0, 0), (0,)]:
                self.tell_both((2, 2), (word,) + rest, False)

    def test_words_that_are_no_texts(self):
        for word in [None, True, False, 0, 1, 10 ** 29, YES, (), [], ["yes"], ("is", 0, 0)]:
            for rest in [(), (YES,), (YES, YES), (0, 0)]:
                self.tell_both((2, 2), (word,) + rest, False)


class FieldsTest(Told):
    SHAPES = [(1,), (4,), (2, 3), (3, 2), (1, 4), (2, 3, 4), (3, 3, 3)]

    def test_each_field_and_value_of_the_shape(self):
        for shape in self.SHAPES:
            for field, many in enumerate(shape):
                for value in range(many):
                    self.tell_both(shape, ("is", field, value), True)
                    self.tell_saying_only(shape, ("put", field, value))

    def test_one_beyond_and_below_nought(self):
        for shape in self.SHAPES:
            for word in ("is", "put"):
                self.tell_both(shape, (word, len(shape), 0), False)
                self.tell_both(shape, (word, -1, 0), False)
                self.tell_both(shape, (word, 10 ** 29, 0), False)
                self.tell_both(shape, (word, -10 ** 29, 0), False)
                for field, many in enumerate(shape):
                    for value in (many, many + 1, -1, -many, 10 ** 29, -10 ** 29):
                        self.tell_both(shape, (word, field, value), False)

    def test_fields_and_values_that_are_no_numbers(self):
        for thing in [True, False, None, "", "0", "1", "a", [], [0], (), (0,), YES]:
            for word in ("is", "put"):
                self.tell_both((2, 2), (word, thing, 0), False)
                self.tell_both((2, 2), (word, 0, thing), False)
                self.tell_both((2, 2), (word, thing, thing), False)

    def test_wrong_fields_within(self):
        for inner in [("is", 2, 0), ("is", 0, 2), ("put", 0, True), ("is", False, 0)]:
            for thing in [("then", YES, inner), ("then", inner, YES), ("either", YES, inner), ("either", inner, YES),
                          ("again", inner), ("not", inner), ("again", ("then", YES, ("either", inner, NO)))]:
                self.tell_both((2, 2), thing, False)


class PartsTest(Told):
    def test_too_few_and_too_many(self):
        right = {"yes": (), "no": (), "note": (), "is": (0, 0), "put": (0, 0), "then": (YES, YES),
                 "either": (YES, YES), "again": (YES,), "not": (YES,)}
        self.assertEqual(sorted(right), sorted(WORDS))
        for word, rest in right.items():
            self.tell_saying((2, 2), (word,) + rest, True)
            for more in (0, None, YES, "yes", []):
                self.tell_both((2, 2), (word,) + rest + (more,), False)
                self.tell_both((2, 2), (word,) + rest + (more, more), False)
            for many in range(len(rest)):
                self.tell_both((2, 2), (word,) + rest[:many], False)

    def test_what_is_within_is_a_saying(self):
        for thing in NO_TUPLES + [(), ("maybe",), (YES,), (0,), (None,), ("is", 0), ("then", YES)]:
            for whole in [("then", thing, YES), ("then", YES, thing), ("either", thing, YES), ("either", YES, thing),
                          ("again", thing), ("not", thing)]:
                self.tell_both((2, 2), whole, False)

    def test_things_that_are_no_tuples(self):
        for thing in NO_TUPLES:
            self.tell_both((2, 2), thing, False)
        self.tell_both((2, 2), (), False)
        self.tell_both((2, 2), (YES,), False)
        self.tell_both((2, 2), ("yes",) * 300, False)
        self.tell_both((2, 2), (("yes",),) * 300, False)

    def test_lists_in_place_of_tuples_within(self):
        self.tell_both((2, 2), ("then", ["yes"], YES), False)
        self.tell_both((2, 2), ("again", ["yes"]), False)
        self.tell_both((2, 2), ("not", ["is", 0, 0]), False)


class NotesTest(Told):
    def test_at_most_five_notes(self):
        for many in range(9):
            self.tell_saying((2, 2), then_all([NOTE] * many), many <= 5)
            self.tell_test((2, 2), then_all([NOTE] * many), many == 0)

    def test_notes_count_wherever_they_stand(self):
        five = ("either", ("again", ("then", NOTE, NOTE)), ("then", ("either", NOTE, NOTE), NOTE))
        self.tell_saying_only((2, 2), five)
        for six in [("then", five, NOTE), ("either", NOTE, five), ("again", ("then", ("no",), ("then", five, NOTE)))]:
            self.tell_both((2, 2), six, False)

    def test_one_note_that_stands_at_many_places_counts_each_time(self):
        two = ("then", NOTE, NOTE)
        self.tell_saying_only((2, 2), ("either", two, two))
        self.tell_both((2, 2), ("either", two, ("either", two, two)), False)


class WholeTest(Told):
    def test_sayings_that_lie_deep(self):
        # Sayings that were told, as that of a table of sixty rules, lie deeper than what is written by hand.
        for many in (20, 60, 300, 3000):
            self.tell_both((2, 2), nested("not", ("is", 0, 0), many), True)
            self.tell_saying_only((2, 2), nested("again", NOTE, many))
            self.tell_both((2, 2), nested("not", NOTE, many), False)
            self.tell_both((2, 2), nested("again", ("is", 0, 2), many), False)
            self.tell_saying((2, 2), then_all([("put", 0, 0)] * many), True)

    def test_sayings_of_more_than_sixty_parts(self):
        self.tell_saying((2, 2), then_all([YES] * 30), True)
        self.tell_saying((2, 2), then_all([YES] * 31), True)
        self.tell_test((3, 3, 3), then_all([("is", 2, 2)] * 20000), True)
        self.tell_test((3, 3, 3), then_all([("is", 2, 2)] * 20000 + [("is", 2, 3)]), False)

    def test_many_sayings(self):
        for shape in [(1,), (4,), (2, 2), (2, 3, 2), (3, 3, 3)]:
            for saying in some_sayings(shape, 200, 5):
                self.tell_saying(shape, saying, True)
                words = repr(saying)
                so = not any(word in words for word in ("'note'", "'put'", "'again'"))
                self.tell_test(shape, saying, so)

    def test_no_shape_whatever_stands_beside_it(self):
        for shape in NO_SHAPES:
            for thing in [YES, ("is", 0, 0), None, [], (), "yes", ("maybe",)]:
                with self.assertRaises(NoShape, msg=repr(shape)):
                    is_saying(shape, thing)
                with self.assertRaises(NoShape, msg=repr(shape)):
                    is_test(shape, thing)

    def test_nothing_is_changed(self):
        for thing in [["then", ["yes"], ["no"]], ("then", ["is", 0, 0], [YES]), ("is", [0], 0), [[[]]], ([],)]:
            before = copy.deepcopy(thing)
            for at in range(2):
                self.tell_both((2, 2), thing, False)
                self.assertEqual(thing, before)

    def test_the_same_is_told_of_a_thing_changed_behind_the_call(self):
        inner = []
        self.tell_both((2, 2), ("again", inner), False)
        inner.append("yes")
        self.tell_both((2, 2), ("again", inner), False)
        self.tell_both((2, 2), ("not", ("yes",)), True)


if __name__ == "__main__":
    unittest.main()
