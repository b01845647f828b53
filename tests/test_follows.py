"""Promise 21, and 2 as far as it touches follows."""

import functools
import itertools
import math
import unittest

from nearrows.errors import NoNearness, NoShape
from nearrows.fewest import fewest
from nearrows.follows import factor
from nearrows.makings import made
from tests.samples import SMALL_SHAPES, anything


def least_free(one, nearness, other, nearness_too):
    """The factor by all ways, spot by spot: taken from each spot that is not yet taken, blind, or free."""
    if nearness_too < nearness:
        return None

    @functools.cache
    def least(spot, taken, blind):
        if spot == len(other):
            return 1
        ways = [other[spot] * least(spot + 1, taken, blind)]
        if blind:
            ways.append(least(spot + 1, taken, blind - 1))
        for source, signs in enumerate(one):
            if signs >= other[spot] and not taken >> source & 1:
                ways.append(least(spot + 1, taken | 1 << source, blind))
        return min(ways)

    return least(0, 0, nearness_too - nearness)


def nearnesses(one, other):
    """Each nearness of the one with each of the other."""
    return itertools.product(range(len(one) + 1), range(len(other) + 1))


class Factor(unittest.TestCase):
    def check_factor(self, one, nearness, other, nearness_too, number):
        told = factor(one, nearness, other, nearness_too)
        self.assertEqual(told, number)
        self.assertIs(type(told), int)

    def test_to_the_same(self):
        for shape in [*SMALL_SHAPES, (2,) * 8, (9, 9), (4, 4, 4, 4), (2, 2, 2, 2, 2, 8)]:
            for nearness in range(len(shape) + 1):
                self.check_factor(shape, nearness, shape, nearness, 1)

    def test_to_a_lesser_one(self):
        self.check_factor((3, 3, 2), 1, (3, 2, 2), 1, 1)
        self.check_factor((3, 3, 2), 1, (3, 2), 1, 1)
        self.check_factor((3, 3, 2), 1, (2,), 1, 1)
        self.check_factor((9, 9), 0, (2, 2), 0, 1)
        self.check_factor((2,) * 8, 1, (2,) * 3, 1, 1)

    def test_free_spots(self):
        self.check_factor((2, 2), 1, (2, 2, 3), 1, 3)
        self.check_factor((2, 2), 1, (3, 3), 1, 9)
        self.check_factor((3,), 1, (3, 2, 4), 1, 8)
        self.check_factor((3,), 1, (5, 4), 1, 20)
        # The first's one spot can stand for either of the two, so that the lesser one is free.
        self.check_factor((9,), 0, (2, 9), 0, 2)
        self.check_factor((4,), 0, (3, 4, 2), 0, 6)

    def test_greatest_first_is_not_spot_by_spot(self):
        self.check_factor((2, 9), 0, (2, 9), 0, 1)
        self.check_factor((9, 2), 0, (2, 9), 0, 1)
        self.check_factor((4, 3), 0, (3, 4, 5), 0, 5)
        self.check_factor((4, 4), 0, (5, 4, 3), 0, 5)
        self.check_factor((3, 2), 0, (4, 4, 3), 0, 16)

    def test_blind_spots(self):
        self.check_factor((2, 2), 1, (2, 2, 3), 2, 1)
        self.check_factor((2, 2), 1, (3, 3), 2, 3)
        self.check_factor((2, 2), 0, (3, 3), 2, 1)
        self.check_factor((2, 2), 0, (2, 2, 4, 5), 1, 4)
        self.check_factor((2, 2), 0, (2, 2, 4, 5), 2, 1)
        self.check_factor((3, 3), 0, (3, 3, 2, 2), 1, 2)

    def test_blind_or_free_at_one_time(self):
        # One blind: the 9; then 4 is taken from the 4, and the 3 is free.
        self.check_factor((4, 2), 1, (9, 4, 3), 2, 3)
        # One blind: either 4; the other is free, for no spot of the first has so many signs.
        self.check_factor((3, 3), 1, (4, 4, 3, 3), 2, 4)

    def test_spots_with_more_signs(self):
        self.check_factor((3, 3), 1, (2, 2), 1, 1)
        self.check_factor((2, 2), 1, (2, 3), 1, 3)
        self.check_factor((5, 2), 1, (4, 3), 1, 3)

    def test_spots_in_another_order(self):
        for one, other in (((4, 3, 2), (2, 3, 4)), ((5, 3), (2, 4, 3)), ((9,), (2, 3, 4)), ((2, 3, 4), (3, 3, 3))):
            for nearness, too in nearnesses(one, other):
                told = {
                    factor(first, nearness, second, too)
                    for first in itertools.permutations(one) for second in itertools.permutations(other)
                }
                self.assertEqual(len(told), 1)

    def test_none_where_the_second_nearness_is_less(self):
        for one, other in itertools.product([(2,), (3, 2), (2, 2, 2), (2,) * 8], repeat=2):
            for nearness, too in nearnesses(one, other):
                told = factor(one, nearness, other, too)
                self.assertIs(told is None, too < nearness)

    def test_against_all_ways(self):
        shapes = [(2,), (9,), (3, 2), (2, 3), (5, 5), (2, 3, 4), (4, 2, 3), (3, 3, 3), (2, 2, 2, 3), (2, 5, 2)]
        for one, other in itertools.product(shapes, repeat=2):
            for nearness, too in nearnesses(one, other):
                self.assertEqual(factor(one, nearness, other, too), least_free(one, nearness, other, too))

    def test_shapes_of_eight_spots(self):
        long = (2,) * 8
        self.check_factor((2,), 0, long, 0, 128)
        self.check_factor((2,), 0, long, 7, 1)
        self.check_factor((2,), 1, long, 8, 1)
        self.check_factor((2,), 1, long, 5, 8)
        self.assertIsNone(factor(long, 3, (2,), 1))
        self.check_factor(long, 1, (9,), 1, 9)
        for other in ((2,) * 8, (2,) * 7, (3, 3, 3, 3), (4, 2, 4, 2, 4), (9, 9), (2, 2, 2, 2, 2, 2, 3), (2, 2, 2, 2, 2, 8)):
            for nearness, too in nearnesses(long, other):
                self.assertEqual(factor(long, nearness, other, too), least_free(long, nearness, other, too))
                self.assertEqual(factor(other, too, long, nearness), least_free(other, too, long, nearness))

    def test_so_many_times_the_rows_are_enough(self):
        shapes = [(2,), (5,), (3, 2), (4, 4), (2, 2, 2), (2, 3, 4), (3, 3, 3), (2, 2, 2, 3)]
        numbers = {(shape, t): fewest(shape, t)[0] for shape in shapes for t in range(len(shape) + 1)}
        for (one, nearness), (other, too) in itertools.product(numbers, repeat=2):
            times = factor(one, nearness, other, too)
            if times is not None:
                self.assertLessEqual(numbers[other, too], times * numbers[one, nearness])
            else:
                self.assertLess(too, nearness)

    def test_makings_go_this_way(self):
        inner = ("alike", 2, 3)
        shape, nearness, heap = made(inner)
        for making, times in (
            (("more", inner, 4), 4), (("blind", inner, 4), 1), (("left", inner, 0), 1), (inner, 1),
            (("fewer", ("more", inner, 4), 3, 3), 3), (("beside", inner, ("all", (3, 2))), 6),
        ):
            shape_too, nearness_too, heap_too = made(making)
            self.check_factor(shape, nearness, shape_too, nearness_too, times)
            self.assertLessEqual(len(heap_too), times * len(heap))

    def test_never_more_than_the_size(self):
        for one, other in itertools.product(SMALL_SHAPES[::3], SMALL_SHAPES[::4]):
            self.assertLessEqual(factor(one, 0, other, 0), math.prod(other))


class Refusals(unittest.TestCase):
    def test_no_shape_of_anything(self):
        for thing in [*anything(), ()]:
            with self.subTest(thing=repr(thing)):
                self.assertRaises(NoShape, lambda: factor(thing, 1, (2, 2), 1))
                self.assertRaises(NoShape, lambda: factor((2, 2), 1, thing, 1))

    def test_no_nearness_of_anything(self):
        for thing in [*anything(), (), -1, 3, True, False, None, "1", (1,), [1], 10 ** 29]:
            if type(thing) is int and 0 <= thing <= 2:
                continue
            with self.subTest(thing=repr(thing)):
                self.assertRaises(NoNearness, lambda: factor((2, 2), thing, (2, 2), 1))
                self.assertRaises(NoNearness, lambda: factor((2, 2), 1, (2, 2), thing))

    def test_each_nearness_is_one_of_its_own_shape(self):
        self.assertRaises(NoNearness, lambda: factor((2,), 2, (2, 2), 2))
        self.assertRaises(NoNearness, lambda: factor((2, 2), 2, (2,), 2))
        self.assertEqual(factor((2, 2), 1, (2,), 1), 1)
        self.assertEqual(factor((2,), 1, (2, 2), 2), 1)

    def test_the_first_refusal_in_errors_is_met(self):
        self.assertRaises(NoShape, lambda: factor((2, 2), None, (1,), None))
        self.assertRaises(NoShape, lambda: factor((1,), 9, (2,), 9))
        self.assertRaises(NoNearness, lambda: factor((2, 2), 2, (2, 2), 9))
        self.assertRaises(NoNearness, lambda: factor((2, 2), 9, (2, 2), 1))


if __name__ == "__main__":
    unittest.main()
