"""Promise 17, and 2 as far as it touches exchanges."""

import copy
import itertools
import unittest

from nearrows import exchanges as module
from nearrows.errors import NoExchange, NoHeap, NoRow, NoShape
from nearrows.exchanges import back, behind, is_exchange, led_heap, led_row, led_shape
from nearrows.heaps import is_heap
from tests.samples import anything, apart, exchanges, heaps, led, odd_things, rows
from tests.samples import led_shape as shape_led_to

SMALL = [(3, 2), (2, 2, 2), (4,), (2, 3, 2), (3, 3)]
TURN = ((1, 0), ((1, 0), (1, 2, 0)))
KEEP = ((0, 1), ((0, 1, 2), (0, 1)))


def kept(shape):
    """The exchange that leads each row to itself."""
    return (tuple(range(len(shape))), tuple(tuple(range(signs)) for signs in shape))


class IsExchange(unittest.TestCase):
    def test_each_exchange(self):
        for shape in SMALL:
            for exchange in exchanges(shape):
                self.assertIs(is_exchange(shape, exchange), True)

    def test_of_many_spots_and_signs(self):
        self.assertIs(is_exchange((2,) * 8, ((7, 6, 5, 4, 3, 2, 1, 0), ((1, 0),) * 8)), True)
        self.assertIs(is_exchange((9, 9), ((1, 0), (tuple(range(9)), tuple(range(8, -1, -1))))), True)
        self.assertIs(is_exchange((9, 9), ((1, 0), (tuple(range(9)), tuple(range(8))))), False)

    def test_only_each_spot_once(self):
        for length in range(4):
            for order in itertools.product(range(-1, 4), repeat=length):
                signs = tuple((3, 2)[spot] if spot in (0, 1) else 2 for spot in order)
                thing = (order, tuple(tuple(range(many)) for many in signs))
                self.assertIs(is_exchange((3, 2), thing), order in ((0, 1), (1, 0)))

    def test_only_each_sign_once(self):
        for length in range(5):
            for goes in itertools.product(range(-1, 4), repeat=length):
                self.assertIs(is_exchange((3, 2), ((0, 1), (goes, (0, 1)))), sorted(goes) == [0, 1, 2])
                self.assertIs(is_exchange((3, 2), ((1, 0), ((1, 0), goes))), sorted(goes) == [0, 1, 2])

    def test_signs_of_the_spot_that_stands_there(self):
        self.assertIs(is_exchange((3, 2), ((1, 0), ((0, 1), (0, 1, 2)))), True)
        self.assertIs(is_exchange((3, 2), ((1, 0), ((0, 1, 2), (0, 1)))), False)
        self.assertIs(is_exchange((3, 2), ((0, 1), ((0, 1), (0, 1, 2)))), False)

    def test_true_and_false_are_no_numbers(self):
        self.assertIs(is_exchange((3, 2), ((False, True), ((0, 1, 2), (0, 1)))), False)
        self.assertIs(is_exchange((3, 2), ((0, 1), ((0, 1, 2), (False, True)))), False)
        self.assertIs(is_exchange((3, 2), ((0, 1), ((0, True, 2), (0, 1)))), False)

    def test_lists_and_other_lengths(self):
        for thing in (
            list(KEEP), ([0, 1], KEEP[1]), (KEEP[0], list(KEEP[1])), ((0, 1), ([0, 1, 2], (0, 1))), KEEP[:1], KEEP[1:],
            (*KEEP, ()), (KEEP[0], KEEP[1][:1]), (KEEP[0], (*KEEP[1], (0, 1))), (KEEP,), ((), ()), ("01", KEEP[1]),
            ((0, 1), ("012", "01")), ((0, 1), (b"012", (0, 1))), (KEEP[1], KEEP[0]), ({0: 1, 1: 0}, KEEP[1]),
            ((0, 1), (range(3), (0, 1))),
        ):
            with self.subTest(thing=thing):
                self.assertIs(is_exchange((3, 2), thing), False)

    def test_of_anything(self):
        for thing in anything() + [()]:
            with self.subTest(thing=repr(thing)):
                for some in (thing, (thing, KEEP[1]), (KEEP[0], thing), ((0, 1), (thing, (0, 1)))):
                    self.assertIs(is_exchange((3, 2), some), False)
                    self.assertRaises(NoExchange, lambda: led_shape((3, 2), some))
                    self.assertRaises(NoExchange, lambda: led_row((3, 2), some, (0, 0)))
                    self.assertRaises(NoExchange, lambda: led_heap((3, 2), some, ()))
                    self.assertRaises(NoExchange, lambda: back((3, 2), some))
                    self.assertRaises(NoExchange, lambda: behind((3, 2), some, KEEP))
                    self.assertRaises(NoExchange, lambda: behind((3, 2), KEEP, some))
        for thing in odd_things():
            with self.subTest(thing=repr(thing)):
                self.assertIs(is_exchange((3, 2), ((thing, 1), KEEP[1])), False)
                self.assertIs(is_exchange((3, 2), ((0, 1), ((0, thing, 1), (0, 1)))), False)


class Led(unittest.TestCase):
    def test_led(self):
        self.assertEqual(led_shape((3, 2), TURN), (2, 3))
        self.assertEqual(led_row((3, 2), TURN, (0, 0)), (1, 1))
        self.assertEqual(led_row((3, 2), TURN, (2, 1)), (0, 0))
        self.assertEqual(led_heap((3, 2), TURN, ((0, 0), (2, 1))), ((0, 0), (1, 1)))
        self.assertEqual(led_heap((3, 2), TURN, ()), ())
        turned = ((1, 2, 0), ((0, 1, 2, 3), (1, 0), (2, 0, 1)))
        self.assertEqual(led_shape((3, 4, 2), turned), (4, 2, 3))
        self.assertEqual(led_row((3, 4, 2), turned, (0, 3, 1)), (3, 0, 2))

    def test_by_each_exchange(self):
        for shape in SMALL:
            some = heaps(shape, 3)
            for place, exchange in enumerate(exchanges(shape)):
                self.assertEqual(led_shape(shape, exchange), shape_led_to(exchange, shape))
                for row in rows(shape):
                    self.assertEqual(led_row(shape, exchange, row), led(exchange, row))
                for heap in some[place % 11::11]:
                    told = led_heap(shape, exchange, heap)
                    self.assertEqual(told, tuple(sorted(led(exchange, row) for row in heap)))
                    self.assertIs(is_heap(led_shape(shape, exchange), told), True)

    def test_distances_stay(self):
        for shape in ((3, 2), (2, 2, 2)):
            for exchange in exchanges(shape):
                for one, other in itertools.combinations(rows(shape), 2):
                    told = apart(led_row(shape, exchange, one), led_row(shape, exchange, other))
                    self.assertEqual(told, apart(one, other))

    def test_the_kept_shape(self):
        for shape in SMALL + [(2,) * 8]:
            self.assertEqual(led_shape(shape, kept(shape)), shape)
            self.assertEqual(led_heap(shape, kept(shape), tuple(rows(shape))), tuple(rows(shape)))


class Back(unittest.TestCase):
    def test_back(self):
        self.assertEqual(back((3, 2), TURN), ((1, 0), ((2, 0, 1), (1, 0))))
        self.assertEqual(back((3, 2), KEEP), KEEP)
        turned = ((1, 2, 0), ((0, 1, 2, 3), (1, 0), (1, 2, 0)))
        self.assertEqual(back((3, 4, 2), turned), ((2, 0, 1), ((2, 0, 1), (0, 1, 2, 3), (1, 0))))

    def test_by_each_exchange(self):
        for shape in SMALL:
            for exchange in exchanges(shape):
                told = back(shape, exchange)
                there = led_shape(shape, exchange)
                self.assertIs(is_exchange(there, told), True)
                self.assertEqual(led_shape(there, told), shape)
                for row in rows(shape):
                    self.assertEqual(led(told, led(exchange, row)), row)
                self.assertEqual(back(there, told), exchange)


class Behind(unittest.TestCase):
    def test_behind(self):
        self.assertEqual(behind((3, 2), TURN, back((3, 2), TURN)), KEEP)
        second = ((1, 0), ((0, 2, 1), (1, 0)))
        self.assertEqual(behind((3, 2), TURN, second), ((0, 1), ((2, 1, 0), (0, 1))))

    def test_of_each_two(self):
        for shape in ((3, 2), (2, 2, 2), (2, 3, 2)):
            for place, first in enumerate(exchanges(shape)):
                there = led_shape(shape, first)
                for second in exchanges(there)[place % 5::5]:
                    told = behind(shape, first, second)
                    self.assertIs(is_exchange(shape, told), True)
                    self.assertEqual(led_shape(shape, told), led_shape(there, second))
                    for row in rows(shape):
                        self.assertEqual(led(told, row), led(second, led(first, row)))

    def test_the_second_is_of_the_shape_that_the_first_leads_to(self):
        self.assertRaises(NoExchange, lambda: behind((3, 2), TURN, KEEP))
        self.assertRaises(NoExchange, lambda: behind((3, 2), KEEP, kept((2, 3))))
        self.assertEqual(behind((3, 2), TURN, kept((2, 3))), TURN)
        self.assertEqual(behind((3, 2), KEEP, TURN), TURN)


class Refusals(unittest.TestCase):
    def test_no_shape_of_anything(self):
        for thing in anything() + [(), [3, 2]]:
            with self.subTest(thing=repr(thing)):
                self.assertRaises(NoShape, lambda: is_exchange(thing, KEEP))
                self.assertRaises(NoShape, lambda: led_shape(thing, KEEP))
                self.assertRaises(NoShape, lambda: led_row(thing, KEEP, (0, 0)))
                self.assertRaises(NoShape, lambda: led_heap(thing, KEEP, ()))
                self.assertRaises(NoShape, lambda: back(thing, KEEP))
                self.assertRaises(NoShape, lambda: behind(thing, KEEP, KEEP))

    def test_no_row_and_no_heap_of_anything(self):
        for thing in anything() + [[(0, 0)], ((1, 0), (0, 0)), ((0, 0), (0, 0))]:
            with self.subTest(thing=repr(thing)):
                self.assertRaises(NoRow, lambda: led_row((3, 2), KEEP, thing))
                self.assertRaises(NoHeap, lambda: led_heap((3, 2), KEEP, thing))

    def test_the_first_refusal_in_errors_is_met(self):
        for ask in (led_row, led_heap, behind):
            self.assertRaises(NoShape, lambda: ask((1,), None, None))
        for ask in (is_exchange, led_shape, back):
            self.assertRaises(NoShape, lambda: ask((1,), None))
        self.assertRaises(NoRow, lambda: led_row((3, 2), None, None))
        self.assertRaises(NoHeap, lambda: led_heap((3, 2), None, None))
        self.assertRaises(NoExchange, lambda: led_row((3, 2), None, (0, 0)))

    def test_what_is_handed_in_stays_and_all_is_told_alike(self):
        thing = [[1, 0], [[1, 0], [1, 2, 0]]]
        heap = [(2, 1), (0, 0)]
        before = copy.deepcopy((thing, heap))
        self.assertIs(is_exchange((3, 2), thing), False)
        self.assertRaises(NoHeap, lambda: led_heap((3, 2), TURN, heap))
        self.assertEqual((thing, heap), before)
        for name in ("led_shape", "back"):
            ask = getattr(module, name)
            self.assertEqual(ask((3, 2), TURN), ask((3, 2), TURN))


if __name__ == "__main__":
    unittest.main()
