"""Promise 18, and 2 as far as it touches like."""

import copy
import itertools
import unittest

from nearrows.errors import NoHeap, NoShape, TooMany
from nearrows.exchanges import is_exchange
from nearrows.like import like
from tests.samples import anything, exchanges, heaps, led_heap, led_shape, rows

TREES = ((0, 0, 0), (0, 0, 1), (0, 1, 1))


def units(spots, many):
    """The heap of rows of noughts with a one at each of the first spots in turn."""
    return tuple(sorted(tuple(int(at == one) for at in range(spots)) for one in range(many)))


class Like(unittest.TestCase):
    def check_like(self, shape, one, other):
        told = like(shape, one, other)
        self.assertIs(is_exchange(shape, told), True)
        self.assertEqual(led_shape(told, shape), shape)
        self.assertEqual(led_heap(told, one), other)

    def test_like(self):
        self.check_like((2, 2, 2), ((0, 0, 0), (1, 1, 1)), ((0, 1, 0), (1, 0, 1)))
        self.check_like((2, 2, 2), TREES, ((0, 1, 0), (1, 1, 0), (1, 1, 1)))
        self.check_like((3, 2), ((0, 0), (2, 1)), ((1, 0), (2, 1)))
        self.check_like((3, 2, 3), ((0, 0, 0), (1, 0, 0)), ((2, 1, 0), (2, 1, 1)))

    def test_not_like(self):
        self.assertIsNone(like((2, 2, 2), ((0, 0, 0), (1, 1, 1)), ((0, 0, 0), (0, 1, 1))))
        self.assertIsNone(like((3, 2), ((0, 0), (0, 1)), ((0, 0), (1, 0))))
        self.assertIsNone(like((2, 2, 2), TREES, ((0, 0, 0), (0, 0, 1), (0, 1, 0), (1, 0, 0))))

    def test_the_same_distances_are_not_enough(self):
        # Both have three rows at distance 1 from each other only where one spot has three signs.
        one = ((0, 0, 0), (0, 1, 1), (1, 0, 1))
        other = ((0, 0, 0), (0, 1, 1), (0, 2, 2))
        self.assertIsNone(like((3, 3, 3), one, other))
        self.assertIsNone(like((2, 2, 2, 2), units(4, 4), ((0, 0, 0, 0), (0, 0, 1, 1), (0, 1, 0, 1), (0, 1, 1, 0))))

    def test_of_no_rows(self):
        for shape in ((3, 2), (2,) * 8, (9,)):
            self.check_like(shape, (), ())
        self.assertIsNone(like((3, 2), (), ((0, 0),)))
        self.assertIsNone(like((3, 2), ((0, 0),), ()))

    def test_of_one_row(self):
        for one, other in itertools.product(rows((3, 2)), repeat=2):
            self.check_like((3, 2), (one,), (other,))

    def test_unlike_numbers_of_rows(self):
        self.assertIsNone(like((2, 2, 2), ((0, 0, 0),), ((0, 0, 0), (1, 1, 1))))
        self.assertIsNone(like((2, 2, 2), ((0, 0, 0), (1, 1, 1)), ((0, 0, 0),)))
        six = tuple(rows((2, 2, 2))[:6])
        self.assertIsNone(like((2, 2, 2), six, six[:5]))

    def test_of_each_two_heaps(self):
        for shape, most in (((3, 2), 6), ((2, 2, 2), 4), ((3, 3), 3), ((2, 3, 2), 2), ((4,), 4)):
            ways = [exchange for exchange in exchanges(shape) if led_shape(exchange, shape) == shape]
            some = heaps(shape, most)
            for one in some[::3]:
                reached = {led_heap(exchange, one) for exchange in ways}
                for other in some:
                    if other in reached:
                        self.check_like(shape, one, other)
                    else:
                        self.assertIsNone(like(shape, one, other))

    def test_of_just_six_rows(self):
        shape = (2,) * 4
        ways = [exchange for exchange in exchanges(shape)]
        some = heaps(shape, 6)
        six = [heap for heap in some[-2000:] if len(heap) == 6][::97]
        for one in six[:3]:
            reached = {led_heap(exchange, one) for exchange in ways}
            for other in six + sorted(reached)[::31]:
                if other in reached:
                    self.check_like(shape, one, other)
                else:
                    self.assertIsNone(like(shape, one, other))

    def test_more_than_six_rows(self):
        many = tuple(rows((2, 2, 2)))
        for one, other in ((7, 7), (7, 6), (6, 7), (8, 0), (0, 7), (1, 8)):
            with self.subTest(one=one, other=other):
                self.assertRaises(TooMany, lambda: like((2, 2, 2), many[:one], many[:other]))
        self.check_like((2, 2, 2), many[:6], many[2:])

    def test_soon_for_many_spots(self):
        shape = (2,) * 8
        moved = ((3, 1, 4, 0, 5, 7, 2, 6), ((1, 0), (0, 1), (0, 1), (1, 0), (1, 0), (0, 1), (1, 0), (0, 1)))
        for many in range(7):
            for step in (1, 7, 23, 41):
                one = tuple(sorted(rows(shape)[::step][:many]))
                self.check_like(shape, one, led_heap(moved, one))
                self.check_like(shape, led_heap(moved, one), one)
        self.check_like(shape, units(8, 6), led_heap(moved, units(8, 6)))
        # These differ only in the last row, so that many ways go far.
        self.assertIsNone(like(shape, units(8, 6), tuple(sorted(units(8, 5) + ((0,) * 8,)))))
        self.assertIsNone(like(shape, units(8, 6), tuple(sorted(units(8, 5) + ((1,) * 8,)))))

    def test_soon_for_many_signs(self):
        moved = ((1, 0), ((4, 0, 8, 1, 2, 3, 5, 7, 6), (1, 2, 3, 4, 5, 6, 7, 8, 0)))
        one = tuple(sorted(rows((9, 9))[::14][:6]))
        self.check_like((9, 9), one, led_heap(moved, one))
        self.assertIsNone(like((9, 9), one, tuple(rows((9, 9))[:6])))


class Refusals(unittest.TestCase):
    def test_no_shape_and_no_heap_of_anything(self):
        for thing in anything() + [[(0, 0)], ((1, 0), (0, 0)), ((0, 0), (0, 0)), [], ((0, 0), (0, 0)) * 4]:
            with self.subTest(thing=repr(thing)):
                self.assertRaises(NoShape, lambda: like(thing, (), ()))
                self.assertRaises(NoHeap, lambda: like((3, 2), thing, ((0, 0),)))
                self.assertRaises(NoHeap, lambda: like((3, 2), ((0, 0),), thing))

    def test_the_first_refusal_in_errors_is_met(self):
        many = tuple(rows((2, 2, 2)))
        self.assertRaises(NoShape, lambda: like((1,), None, None))
        self.assertRaises(NoShape, lambda: like((1,), many, many))
        self.assertRaises(NoHeap, lambda: like((2, 2, 2), many, None))
        self.assertRaises(NoHeap, lambda: like((2, 2, 2), None, many))

    def test_what_is_handed_in_stays_and_all_is_told_alike(self):
        thing = [(1, 1), (0, 0)]
        before = copy.deepcopy(thing)
        self.assertRaises(NoHeap, lambda: like((3, 2), thing, ()))
        self.assertEqual(thing, before)
        self.assertEqual(like((2,) * 8, (), ()), like((2,) * 8, (), ()))
        self.assertEqual(like((2, 2, 2), TREES, TREES), like((2, 2, 2), TREES, TREES))


if __name__ == "__main__":
    unittest.main()
