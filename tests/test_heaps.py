"""Promise 6, and 2 as far as it touches heaps."""

import copy
import itertools
import unittest

from nearrows.errors import NoShape
from nearrows.heaps import is_heap
from tests.samples import SHAPES, anything, heaps, rows


class Heaps(unittest.TestCase):
    def test_heaps(self):
        for heap in heaps((3, 2), 6):
            self.assertIs(is_heap((3, 2), heap), True)

    def test_the_empty_one_and_all_rows(self):
        for shape in SHAPES + [(2,) * 8]:
            self.assertIs(is_heap(shape, ()), True)
            self.assertIs(is_heap(shape, tuple(rows(shape))), True)

    def test_only_sorted_unlike_rows(self):
        for many in range(4):
            for some in itertools.product(rows((3, 2)), repeat=many):
                self.assertIs(is_heap((3, 2), some), list(some) == sorted(set(some)))

    def test_only_rows_of_the_shape(self):
        for wrong in ((0,), (0, 0, 0), (3, 0), (0, 2), (-1, 0), (True, 0), (0, False), [0, 0], "00", b"\0\0", 0, None):
            with self.subTest(wrong=wrong):
                self.assertIs(is_heap((3, 2), (wrong,)), False)
                self.assertIs(is_heap((3, 2), ((0, 0), wrong)), False)
                self.assertIs(is_heap((3, 2), (wrong, (2, 1))), False)

    def test_what_cannot_be_compared_is_no_heap(self):
        for some in (((0, "0"), (0, 0)), ((None, 0), (0, 0)), ({}, {}), (None, (0, 0)), ((0, 0), [1, 1])):
            self.assertIs(is_heap((3, 2), some), False)

    def test_no_heap_of_anything(self):
        for thing in anything() + [[], [(0, 0)], {(0, 0): 1}, {(0, 0)}, (0, 0), "-", "00 01", ((),)]:
            with self.subTest(thing=repr(thing)):
                self.assertIs(is_heap((3, 2), thing), False)

    def test_no_shape_is_refused_first(self):
        for thing in anything() + [(), [3, 2]]:
            with self.subTest(thing=repr(thing)):
                self.assertRaises(NoShape, lambda: is_heap(thing, ()))
                self.assertRaises(NoShape, lambda: is_heap(thing, "no"))

    def test_what_is_handed_in_stays(self):
        for thing in ([(1, 0), (0, 0)], ([1, 0], [0, 0]), {(1, 0): [2]}):
            before = copy.deepcopy(thing)
            self.assertIs(is_heap((3, 2), thing), False)
            self.assertEqual(thing, before)


if __name__ == "__main__":
    unittest.main()
