"""Promise 24, and 2 as far as it touches moves."""

import itertools
import random
import unittest

from nearrows.errors import NoHeap, NoShape, TooMany
from nearrows.moves import changes
from tests.samples import anything, apart, heaps, rows


def picked(shape, many, seed):
    """A heap of so many rows, picked the same way each time."""
    return tuple(sorted(random.Random(f"{shape} {many} {seed}").sample(rows(shape), many)))


def least(one, other):
    """The least number, by all pairings."""
    return min(sum(map(apart, one, order)) for order in itertools.permutations(other))


class Changes(unittest.TestCase):
    def check_changes(self, shape, one, other):
        told = changes(shape, one, other)
        self.assertEqual([type(part) for part in told], [int, tuple, tuple])
        number, pairs, prices = told
        self.check_pairs(number, pairs, one, other)
        self.check_prices(number, prices, one, other)
        return number

    def check_pairs(self, number, pairs, one, other):
        self.assertEqual(list(pairs), sorted(pairs))
        self.assertTrue(all(type(pair) is tuple and len(pair) == 2 for pair in pairs))
        self.assertEqual(sorted(row for row, too in pairs), list(one))
        self.assertEqual(sorted(too for row, too in pairs), list(other))
        self.assertEqual(sum(apart(row, too) for row, too in pairs), number)

    def check_prices(self, number, prices, one, other):
        self.assertEqual([type(part) for part in prices], [tuple, tuple])
        first, second = prices
        self.assertEqual((len(first), len(second)), (len(one), len(other)))
        self.assertEqual({type(price) for price in first + second} - {int}, set())
        self.assertEqual(sum(first) + sum(second), number)
        for (row, price), (too, price_too) in itertools.product(zip(one, first), zip(other, second)):
            self.assertLessEqual(price + price_too, apart(row, too))

    def test_of_no_rows(self):
        for shape in ((2,), (3, 2), (2,) * 8):
            self.assertEqual(changes(shape, (), ()), (0, (), ((), ())))

    def test_of_one_row(self):
        for one, other in itertools.product(rows((3, 2)), repeat=2):
            self.assertEqual(self.check_changes((3, 2), (one,), (other,)), apart(one, other))
            self.assertEqual(changes((3, 2), (one,), (other,))[1], ((one, other),))

    def test_in_order_is_not_always_least(self):
        one = ((0, 0, 0), (0, 1, 1))
        other = ((1, 1, 1), (2, 0, 0))
        self.assertEqual(self.check_changes((3, 2, 2), one, other), 2)
        self.assertEqual(changes((3, 2, 2), one, other)[1], (((0, 0, 0), (2, 0, 0)), ((0, 1, 1), (1, 1, 1))))

    def test_the_nearest_first_is_not_always_least(self):
        # (0, 0) is at 0 from itself, but that leaves two rows that are at distance 2.
        self.assertEqual(self.check_changes((2, 2), ((0, 0), (1, 0)), ((0, 0), (0, 1))), 2)
        self.assertEqual(self.check_changes((2,) * 4, ((0, 0, 0, 0), (0, 0, 0, 1)), ((0, 0, 0, 1), (0, 0, 1, 1))), 2)

    def test_against_all_pairings_of_small_heaps(self):
        for shape, most in (((2, 2), 4), ((3, 2), 3), ((5,), 3), ((2, 2, 2), 2)):
            for one, other in itertools.product(heaps(shape, most), repeat=2):
                if len(one) == len(other):
                    self.assertEqual(self.check_changes(shape, one, other), least(one, other))

    def test_against_all_pairings_of_picked_heaps(self):
        for shape in ((2,) * 8, (3, 3, 2), (9, 9), (4, 4, 4), (2, 3, 4, 5)):
            for many in range(7):
                one, other = picked(shape, many, "one"), picked(shape, many, "other")
                self.assertEqual(self.check_changes(shape, one, other), least(one, other))

    def test_up_to_sixteen_rows(self):
        for shape in ((2,) * 8, (3, 3, 2), (9, 9), (2, 2, 2, 2), (4, 4, 4, 4)):
            for many in range(7, 17):
                for seed in range(4):
                    self.check_changes(shape, picked(shape, many, seed), picked(shape, many, seed + 1))
        first, last = tuple(rows((2,) * 8)[:16]), tuple(rows((2,) * 8)[-16:])
        self.assertEqual(self.check_changes((2,) * 8, first, last), 64)

    def test_from_a_heap_to_itself(self):
        for shape in ((3, 2), (2,) * 8, (9, 9), (2, 2, 2, 2)):
            for many in (0, 1, 2, 5, 6):
                heap = picked(shape, many, "itself")
                self.assertEqual(self.check_changes(shape, heap, heap), 0)
                self.assertEqual(changes(shape, heap, heap)[1], tuple((row, row) for row in heap))
        sixteen = tuple(rows((2,) * 4))
        self.assertEqual(self.check_changes((2,) * 4, sixteen, sixteen), 0)

    def test_there_and_back_is_the_same_number(self):
        for many in (3, 9, 16):
            one, other = picked((4, 4, 4), many, "there"), picked((4, 4, 4), many, "back")
            self.assertEqual(changes((4, 4, 4), one, other)[0], changes((4, 4, 4), other, one)[0])


class Refusals(unittest.TestCase):
    def test_no_shape_of_anything(self):
        for thing in [*anything(), ()]:
            with self.subTest(thing=repr(thing)):
                self.assertRaises(NoShape, lambda: changes(thing, (), ()))
                self.assertRaises(NoShape, lambda: changes(thing, None, ((0, 0),) * 17))

    def test_no_heap_of_anything(self):
        for thing in [*anything(), [], ((1, 0), (0, 0)), ((0, 0), (0, 0)), ((0, 2),), [(0, 0)]]:
            with self.subTest(thing=repr(thing)):
                self.assertRaises(NoHeap, lambda: changes((3, 2), thing, ((0, 0),)))
                self.assertRaises(NoHeap, lambda: changes((3, 2), ((0, 0),), thing))

    def test_not_as_many_rows(self):
        for one, other in itertools.product(range(7), repeat=2):
            heap, heap_too = picked((3, 2), one, "one"), picked((3, 2), other, "other")
            if one != other:
                self.assertRaises(NoHeap, lambda: changes((3, 2), heap, heap_too))

    def test_too_many(self):
        for shape, many in (((2,) * 5, 17), ((2,) * 8, 256), ((9, 9), 20), ((3, 3, 2), 18)):
            heap = tuple(rows(shape)[:many])
            self.assertRaises(TooMany, lambda: changes(shape, heap, heap))
        self.assertEqual(changes((2,) * 5, tuple(rows((2,) * 5)[:16]), tuple(rows((2,) * 5)[:16]))[0], 0)

    def test_the_first_refusal_in_errors_is_met(self):
        many = tuple(rows((2,) * 5))
        self.assertRaises(NoHeap, lambda: changes((2,) * 5, many[:17], many[:18]))
        self.assertRaises(NoHeap, lambda: changes((2,) * 5, many[:17], many[:16]))
        self.assertRaises(NoHeap, lambda: changes((2,) * 5, many[:17], list(many[:17])))
        self.assertRaises(NoHeap, lambda: changes((2,) * 5, None, many[:17]))
        self.assertRaises(TooMany, lambda: changes((2,) * 5, many[:17], many[1:18]))
        self.assertRaises(NoShape, lambda: changes((2,) * 9, many[:17], many[:18]))


class Alike(unittest.TestCase):
    def test_what_is_handed_in_stays_and_all_is_told_alike(self):
        thing = [(0, 0), (1, 1)]
        self.assertRaises(NoHeap, lambda: changes((3, 2), thing, thing))
        self.assertEqual(thing, [(0, 0), (1, 1)])
        one, other = picked((9, 9), 12, "a"), picked((9, 9), 12, "b")
        self.assertEqual(changes((9, 9), one, other), changes((9, 9), one, other))


if __name__ == "__main__":
    unittest.main()
