import copy
import itertools
import unittest

from roadsay.errors import NoShape
from roadsay.letters import is_shape, letters_of

from things import NO_SHAPES, deep


def all_shapes():
    shapes = [shape for many in (1, 2, 3) for shape in itertools.product((1, 2, 3, 4), repeat=many)]
    too_large = [(4, 4, 2), (4, 2, 4), (2, 4, 4), (4, 4, 3), (4, 3, 4), (3, 4, 4), (4, 4, 4), (3, 3, 4), (3, 4, 3),
                 (4, 3, 3)]
    return [shape for shape in shapes if shape not in too_large]


class IsShapeTest(unittest.TestCase):
    def test_shapes_of_one_field(self):
        for many in (1, 2, 3, 4):
            self.assertIs(is_shape((many,)), True)

    def test_all_shapes(self):
        for shape in all_shapes():
            self.assertIs(is_shape(shape), True, shape)

    def test_the_product_is_at_most_27(self):
        self.assertIs(is_shape((3, 3, 3)), True)
        self.assertIs(is_shape((4, 3, 2)), True)
        self.assertIs(is_shape((4, 4, 1)), True)
        for shape in itertools.permutations((4, 4, 2)):
            self.assertIs(is_shape(shape), False)
        for shape in itertools.permutations((4, 3, 3)):
            self.assertIs(is_shape(shape), False)

    def test_the_product_alone_does_not_make_a_shape(self):
        for thing in [(27,), (5, 5), (9, 3), (-3, -3), (-3, -3, 3), (0, 27), (1, 27, 1), (7, 1)]:
            self.assertIs(is_shape(thing), False, thing)

    def test_things_that_are_no_shapes(self):
        for thing in NO_SHAPES:
            self.assertIs(is_shape(thing), False, thing)

    def test_things_that_lie_deep(self):
        for many in range(1, 21):
            self.assertIs(is_shape(deep(2, many)), False, many)
            self.assertIs(is_shape(deep((2, 2), many)), False, many)

    def test_nothing_is_changed(self):
        for thing in ([2, 2], ([2], 2), [[2], [2]], []):
            before = copy.deepcopy(thing)
            is_shape(thing)
            self.assertEqual(thing, before)


class LettersOfTest(unittest.TestCase):
    def test_one_field(self):
        self.assertEqual(letters_of((1,)), [(0,)])
        self.assertEqual(letters_of((4,)), [(0,), (1,), (2,), (3,)])

    def test_two_fields(self):
        self.assertEqual(letters_of((2, 3)), [(0, 0), (0, 1), (0, 2), (1, 0), (1, 1), (1, 2)])
        self.assertEqual(letters_of((3, 2)), [(0, 0), (0, 1), (1, 0), (1, 1), (2, 0), (2, 1)])
        self.assertEqual(letters_of((1, 1)), [(0, 0)])

    def test_three_fields(self):
        self.assertEqual(letters_of((2, 1, 2)), [(0, 0, 0), (0, 0, 1), (1, 0, 0), (1, 0, 1)])
        self.assertEqual(letters_of((1, 2, 3)),
                         [(0, 0, 0), (0, 0, 1), (0, 0, 2), (0, 1, 0), (0, 1, 1), (0, 1, 2)])
        self.assertEqual(len(letters_of((3, 3, 3))), 27)

    def test_all_shapes(self):
        for shape in all_shapes():
            letters = letters_of(shape)
            self.assertIsInstance(letters, list)
            self.assertEqual(letters, list(itertools.product(*[range(many) for many in shape])))
            self.assertTrue(all(type(letter) is tuple for letter in letters))

    def test_the_told_list_is_the_askers_own(self):
        told = letters_of((2, 2))
        told.reverse()
        told.append("more")
        del told[0]
        self.assertEqual(letters_of((2, 2)), [(0, 0), (0, 1), (1, 0), (1, 1)])
        kept = letters_of((2, 2))
        letters_of((2, 2)).clear()
        self.assertEqual(kept, [(0, 0), (0, 1), (1, 0), (1, 1)])

    def test_all_else_is_refused(self):
        for thing in NO_SHAPES:
            with self.assertRaises(NoShape, msg=repr(thing)):
                letters_of(thing)

    def test_nothing_is_changed_by_a_refusal(self):
        thing = [2, 2]
        with self.assertRaises(NoShape):
            letters_of(thing)
        self.assertEqual(thing, [2, 2])


if __name__ == "__main__":
    unittest.main()
