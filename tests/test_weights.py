"""Promises 10 and 11, and 2 as far as it touches weights."""

import copy
import fractions
import itertools
import math
import unittest

from nearrows.errors import NoNearness, NoNumber, NoShape, NoWeights
from nearrows.heaps import is_heap
from nearrows.weights import are_weights, bound, even, packed, top
from tests.samples import SHAPES, anything, apart, heaps, rows

SOME = (((0, 0), 2), ((1, 1), 3), ((2, 0), 1))


def weightings(shape, most):
    """Each weighting of at most so many rows, with weights that go around."""
    return [
        tuple((row, weight) for row, weight in zip(heap, itertools.cycle((3, 1, 10 ** 29, 2))))
        for heap in heaps(shape, most)
    ]


def load(weights, row, nearness):
    """The load of a row's ball."""
    return sum(weight for other, weight in weights if apart(row, other) <= nearness)


class Weights(unittest.TestCase):
    def test_weights(self):
        for weights in weightings((3, 2), 6) + [(), SOME, (((0, 0), 1),), (((2, 1), 10 ** 29),)]:
            self.assertIs(are_weights((3, 2), weights), True)

    def test_only_sorted_unlike_rows(self):
        for some in itertools.product(itertools.product(rows((2, 2)), (1, 2)), repeat=3):
            named = [row for row, weight in some]
            self.assertIs(are_weights((2, 2), some), named == sorted(set(named)))

    def test_the_same_row_twice(self):
        self.assertIs(are_weights((3, 2), (((0, 0), 1), ((0, 0), 2))), False)
        self.assertIs(are_weights((3, 2), (((0, 0), 1), ((0, 0), 1))), False)

    def test_only_weights_from_one_on(self):
        for weight in (0, -1, True, False, None, "1", b"1", (1,), [1], {}):
            with self.subTest(weight=weight):
                self.assertIs(are_weights((3, 2), (((0, 0), weight),)), False)
                self.assertIs(are_weights((3, 2), (((0, 0), 1), ((0, 1), weight))), False)

    def test_only_rows_of_the_shape(self):
        for row in ((0,), (0, 0, 0), (3, 0), (0, 2), (True, 0), [0, 0], "00", None, 0, ()):
            with self.subTest(row=row):
                self.assertIs(are_weights((3, 2), ((row, 1),)), False)
                self.assertIs(are_weights((3, 2), (((0, 0), 1), (row, 1))), False)

    def test_only_pairs(self):
        for pair in ([(0, 0), 1], ((0, 0),), ((0, 0), 1, 1), (), (0, 0), (1, (0, 0)), None, "ab", {(0, 0): 1, 1: 1}):
            with self.subTest(pair=pair):
                self.assertIs(are_weights((3, 2), (pair,)), False)

    def test_no_weights_of_anything(self):
        for thing in anything() + [[], [((0, 0), 1)], {(0, 0): 1}, ((0, 0), 1), ((0, 0),), "-"]:
            with self.subTest(thing=repr(thing)):
                self.assertIs(are_weights((3, 2), thing), False)
                self.assertRaises(NoWeights, lambda: top((3, 2), thing, 1))
                self.assertRaises(NoWeights, lambda: bound((3, 2), thing, 1, 1))


class Top(unittest.TestCase):
    def test_top(self):
        self.assertEqual(top((3, 2), SOME, 0), (3, (1, 1)))
        self.assertEqual(top((3, 2), SOME, 1), (6, (1, 0)))
        self.assertEqual(top((3, 2), SOME, 2), (6, (0, 0)))
        self.assertEqual(top((3, 2), (((2, 1), 4),), 1), (4, (0, 1)))

    def test_of_no_weights(self):
        for shape in SHAPES:
            for nearness in range(len(shape) + 1):
                self.assertEqual(top(shape, (), nearness), (0, (0,) * len(shape)))

    def test_the_greatest_load_and_the_first_row_with_it(self):
        for shape, most in (((3, 2), 6), ((2, 2, 2), 4)):
            for weights in weightings(shape, most):
                for nearness in range(len(shape) + 1):
                    loads = {row: load(weights, row, nearness) for row in rows(shape)}
                    most_load = sorted(loads.values())[-1]
                    first = [row for row in rows(shape) if loads[row] == most_load][0]
                    self.assertEqual(top(shape, weights, nearness), (most_load, first))


class Bound(unittest.TestCase):
    def test_bound(self):
        self.assertEqual(bound((3, 2), SOME, 0, 1), 2)
        self.assertEqual(bound((3, 2), SOME, 1, 1), 1)
        self.assertEqual(bound((3, 2), SOME, 1, 7), 7)
        self.assertEqual(bound((2, 2, 2), even((2, 2, 2)), 1, 1), 2)
        self.assertEqual(bound((2, 2, 2), even((2, 2, 2)), 2, 1), 2)
        self.assertEqual(bound((2, 2, 2), even((2, 2, 2)), 2, 7), 8)
        self.assertEqual(bound((3, 3, 2), even((3, 3, 2)), 1, 2), 6)

    def test_of_no_weights(self):
        self.assertEqual(bound((3, 2), (), 0, 1), 0)
        self.assertEqual(bound((3, 2), (), 2, 5), 0)

    def test_the_least_whole_number_no_less(self):
        for shape, most in (((3, 2), 6), ((2, 2, 2), 4)):
            for weights in weightings(shape, most)[1:]:
                for nearness in range(len(shape) + 1):
                    together = sum(weight for row, weight in weights)
                    most_load = max(load(weights, row, nearness) for row in rows(shape))
                    for often in (1, 2, 3, 10 ** 29):
                        exact = math.ceil(fractions.Fraction(together * often, most_load))
                        self.assertEqual(bound(shape, weights, nearness, often), exact)

    def test_no_heap_that_covers_has_fewer_rows(self):
        shape = (3, 2)
        for nearness in range(3):
            for often in (1, 2):
                fewest = min(
                    [len(heap) for heap in heaps(shape, 6) if all(
                        sum(apart(row, other) <= nearness for other in heap) >= often for row in rows(shape))],
                    default=None,
                )
                for weights in weightings(shape, 6):
                    if fewest is not None:
                        self.assertLessEqual(bound(shape, weights, nearness, often), fewest)

    def test_no_number_of_anything(self):
        for thing in anything() + [(), (1,), [1], "1", 0, -1]:
            if isinstance(thing, int) and not isinstance(thing, bool) and thing >= 1:
                continue
            with self.subTest(thing=repr(thing)):
                self.assertRaises(NoNumber, lambda: bound((3, 2), SOME, 1, thing))
                self.assertRaises(NoNumber, lambda: bound((3, 2), (), 1, thing))


class EvenAndPacked(unittest.TestCase):
    def test_even(self):
        self.assertEqual(even((2, 2)), (((0, 0), 1), ((0, 1), 1), ((1, 0), 1), ((1, 1), 1)))
        for shape in SHAPES + [(2,) * 8]:
            self.assertEqual(even(shape), tuple((row, 1) for row in rows(shape)))
            self.assertIs(are_weights(shape, even(shape)), True)

    def test_packed(self):
        self.assertEqual(packed((2, 2, 2), 1), ((0, 0, 0), (1, 1, 1)))
        self.assertEqual(packed((3, 2), 0), tuple(rows((3, 2))))
        self.assertEqual(packed((3, 2), 1), ((0, 0),))
        self.assertEqual(packed((9,), 1), ((0,),))
        self.assertEqual(len(packed((2,) * 7, 1)), 16)
        self.assertEqual(packed((3, 3, 3), 1), ((0, 0, 0), (1, 1, 1), (2, 2, 2)))

    def test_each_that_is_far_from_all_taken(self):
        for shape in SHAPES:
            for nearness in range(len(shape) + 1):
                told = packed(shape, nearness)
                self.assertIs(is_heap(shape, told), True)
                for row in rows(shape):
                    before = [other for other in told if other < row]
                    fits = all(apart(row, other) > nearness + nearness for other in before)
                    self.assertIs(row in told, fits)

    def test_a_heap_that_covers_has_as_many_rows(self):
        for nearness in range(3):
            many = len(packed((3, 2), nearness))
            for heap in heaps((3, 2), 6):
                if all(any(apart(row, other) <= nearness for other in heap) for row in rows((3, 2))):
                    self.assertGreaterEqual(len(heap), many)


class Refusals(unittest.TestCase):
    def test_no_shape_of_anything(self):
        for thing in anything() + [(), [3, 2]]:
            with self.subTest(thing=repr(thing)):
                self.assertRaises(NoShape, lambda: are_weights(thing, ()))
                self.assertRaises(NoShape, lambda: top(thing, (), 1))
                self.assertRaises(NoShape, lambda: bound(thing, (), 1, 1))
                self.assertRaises(NoShape, lambda: even(thing))
                self.assertRaises(NoShape, lambda: packed(thing, 1))

    def test_no_nearness(self):
        for thing in (-1, 3, True, False, None, "1", (1,), [1], 10 ** 29):
            with self.subTest(thing=thing):
                self.assertRaises(NoNearness, lambda: top((3, 2), SOME, thing))
                self.assertRaises(NoNearness, lambda: bound((3, 2), SOME, thing, 1))
                self.assertRaises(NoNearness, lambda: packed((3, 2), thing))

    def test_the_first_refusal_in_errors_is_met(self):
        self.assertRaises(NoShape, lambda: are_weights((1,), None))
        self.assertRaises(NoShape, lambda: top((1,), None, None))
        self.assertRaises(NoNearness, lambda: top((3, 2), None, None))
        self.assertRaises(NoShape, lambda: bound((1,), None, None, None))
        self.assertRaises(NoNearness, lambda: bound((3, 2), None, None, None))
        self.assertRaises(NoNumber, lambda: bound((3, 2), None, 1, None))
        self.assertRaises(NoShape, lambda: packed((1,), None))

    def test_what_is_handed_in_stays(self):
        for thing in ([((1, 0), 1), ((0, 0), 2)], ([(1, 0), 1], [(0, 0), 2])):
            before = copy.deepcopy(thing)
            self.assertIs(are_weights((3, 2), thing), False)
            self.assertRaises(NoWeights, lambda: top((3, 2), thing, 1))
            self.assertEqual(thing, before)


if __name__ == "__main__":
    unittest.main()
