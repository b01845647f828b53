"""Promise 20, and 2 as far as it touches fewest."""

import itertools
import math
import unittest

from nearrows.cases import are_read
from nearrows.counts import counted, doubled
from nearrows.errors import NoNearness, NoShape, TooMany
from nearrows.fewest import fewest
from nearrows.heaps import is_heap
from nearrows.weights import bound, even, packed
from tests.papers import reads
from tests.samples import SMALL_SHAPES, anything, covers, heaps, rows


def depth(paper):
    """How many papers stand in one another."""
    return 1 + max(map(depth, paper[2])) if paper[0] == "row" else 1


def weightings(shape):
    """A few weightings, even ones and uneven ones."""
    every = rows(shape)
    return [
        (), ((every[-1], 1),), tuple((row, 1 + sum(row)) for row in every), tuple((row, 3) for row in every[::2]),
        tuple((row, 1 + place % 3) for place, row in enumerate(every)), tuple((row, 10 ** 28) for row in every[1::3]),
    ]


class Fewest(unittest.TestCase):
    def check_fewest(self, shape, nearness):
        told = fewest(shape, nearness)
        self.assertIs(type(told), tuple)
        number, heap, paper = told
        self.assertIs(type(number), int)
        self.assertEqual(len(heap), number)
        self.assertIs(is_heap(shape, heap), True)
        self.assertIs(covers(shape, heap, nearness), True)
        self.assertIs(are_read(shape, nearness, number - 1, paper), True)
        self.assertIs(reads(shape, nearness, number - 1, paper), True)
        self.assertIs(are_read(shape, nearness, number, paper), False)
        self.assertLessEqual(depth(paper), 12)
        return number

    def test_all_small_shapes_by_each_nearness(self):
        self.assertEqual(len(SMALL_SHAPES), 70)
        for shape in SMALL_SHAPES:
            for nearness in range(len(shape) + 1):
                with self.subTest(shape=shape, nearness=nearness):
                    self.check_fewest(shape, nearness)

    def test_the_told_numbers(self):
        for shape in SMALL_SHAPES:
            with self.subTest(shape=shape):
                self.assertEqual(fewest(shape, 0)[0], math.prod(shape))
                self.assertEqual(fewest(shape, len(shape) - 1)[0], math.prod(shape) if len(shape) == 1 else min(shape))
                self.assertEqual(fewest(shape, len(shape))[0], 1)

    def test_known_numbers(self):
        for shape, nearness, number in (
            ((2, 2, 2), 1, 2), ((2, 2, 2, 2), 1, 4), ((2, 2, 2, 2), 2, 2), ((3, 3, 3), 1, 5), ((3, 3, 3), 2, 3),
            ((2, 2, 2, 3), 1, 6), ((3, 2, 2, 2), 1, 6), ((3, 3, 2), 1, 4), ((5, 5), 1, 5), ((3, 9), 1, 3),
        ):
            self.assertEqual(self.check_fewest(shape, nearness), number)

    def test_against_all_heaps(self):
        for shape in ((2,), (5,), (2, 2), (3, 2), (3, 3), (2, 2, 2), (2, 5), (2, 2, 3), (2, 3, 2), (3, 4), (4, 4)):
            for nearness in range(1, len(shape) + 1):
                least = min(len(heap) for heap in heaps(shape, 4) if covers(shape, heap, nearness))
                self.assertEqual(fewest(shape, nearness)[0], least)

    def test_shapes_of_25_to_27_rows(self):
        for shape in ((5, 5), (3, 9), (9, 3), (3, 3, 3)):
            self.assertIn(math.prod(shape), range(25, 28))
            for nearness in range(len(shape) + 1):
                self.check_fewest(shape, nearness)

    def test_spots_in_another_order_have_the_same_number(self):
        for shape in ((2, 2, 2, 3), (2, 3, 4), (2, 2, 6), (3, 8)):
            for nearness in range(len(shape) + 1):
                numbers = {fewest(order, nearness)[0] for order in itertools.permutations(shape)}
                self.assertEqual(len(numbers), 1)

    def test_no_bound_is_greater(self):
        for shape in SMALL_SHAPES:
            for nearness in range(len(shape) + 1):
                number = fewest(shape, nearness)[0]
                bounds = [bound(shape, weights, nearness, 1) for weights in [even(shape), *weightings(shape)]]
                bounds += [counted(shape, nearness, doubled(shape, nearness)), len(packed(shape, nearness))]
                self.assertLessEqual(max(bounds), number, (shape, nearness))

    def test_no_paper_is_read_of_so_many_rows(self):
        for shape in ((2, 2, 2, 3), (3, 3, 3), (4, 6), (2, 3, 4)):
            number, heap, paper = fewest(shape, 1)
            for many in range(number, number + 4):
                self.assertIs(are_read(shape, 1, many, paper), False)


class Refusals(unittest.TestCase):
    def test_too_many(self):
        for shape in ((4, 7), (7, 4), (2, 2, 7), (4, 8), (2,) * 5, (9, 9), (3, 3, 4), (2,) * 8, (4, 4, 4, 4)):
            for nearness in range(len(shape) + 1):
                self.assertRaises(TooMany, lambda: fewest(shape, nearness))

    def test_no_shape_of_anything(self):
        for thing in [*anything(), ()]:
            with self.subTest(thing=repr(thing)):
                self.assertRaises(NoShape, lambda: fewest(thing, 1))

    def test_no_nearness_of_anything(self):
        for thing in [*anything(), (), -1, 3, True, False, None, "1", (1,), [1], 10 ** 29]:
            if type(thing) is int and 0 <= thing <= 2:
                continue
            with self.subTest(thing=repr(thing)):
                self.assertRaises(NoNearness, lambda: fewest((3, 2), thing))

    def test_the_first_refusal_in_errors_is_met(self):
        self.assertRaises(NoShape, lambda: fewest((2,) * 9, 10))
        self.assertRaises(NoShape, lambda: fewest([4, 7], None))
        self.assertRaises(NoNearness, lambda: fewest((4, 7), 3))
        self.assertRaises(NoNearness, lambda: fewest((4, 7), True))
        self.assertRaises(TooMany, lambda: fewest((4, 7), 2))


class Alike(unittest.TestCase):
    def test_asked_again_all_is_told_alike(self):
        for shape in ((2, 2, 2, 3), (3, 3, 3), (5, 5)):
            self.assertEqual(fewest(shape, 1), fewest(shape, 1))


if __name__ == "__main__":
    unittest.main()
