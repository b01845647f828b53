"""Promise 16, and 2 as far as it touches joined."""

import copy
import itertools
import unittest

from nearrows.errors import NoHeap, NoNearness, NoNumber, NoShape, NotNormal
from nearrows.heaps import is_heap
from nearrows.joined import is_normal, joined, split
from nearrows.makings import made
from nearrows.matrices import by_goals
from nearrows.shapes import is_shape
from tests.samples import Agreeing, anything, apart, covers, heaps, rows

SMALL = [((3, 2), 6), ((2, 2, 2), 4), ((2, 3), 6), ((4,), 4), ((2, 2), 4)]
ENDS = ((0, 0, 0), (1, 1, 1))
PAIR = ((0, 0), (1, 1))


def parts(shape, heap, spot):
    """For each sign the rows with it at the spot, as the document words it."""
    return {sign: [row for row in heap if row[spot] == sign] for sign in range(shape[spot])}


def normal(shape, heap, spot, nearness):
    """Whether the heap is normal, as the document words it."""
    told = parts(shape, heap, spot)
    if any(not part for part in told.values()):
        return False
    together = [sum(min(apart(row, other) for other in part) for part in told.values()) for row in rows(shape)]
    return max(together) < shape[spot] * (nearness + 1)


def normal_heaps(shape, most, spot):
    """Heaps of the shape with a nearness by which they are normal at the spot."""
    return [
        (heap, nearness) for heap in heaps(shape, most) for nearness in range(len(shape) + 1)
        if normal(shape, heap, spot, nearness)
    ]


class Split(unittest.TestCase):
    def test_split(self):
        heap = ((0, 0), (0, 1), (2, 1))
        self.assertEqual(split((3, 2), heap, 0), [((0, 0), (0, 1)), (), ((2, 1),)])
        self.assertEqual(split((3, 2), heap, 1), [((0, 0),), ((0, 1), (2, 1))])
        self.assertEqual(split((3, 2), (), 0), [(), (), ()])

    def test_at_each_spot(self):
        for shape, most in SMALL:
            for heap in heaps(shape, most):
                for spot in range(len(shape)):
                    told = split(shape, heap, spot)
                    self.assertIsInstance(told, list)
                    self.assertEqual(told, [tuple(part) for part in parts(shape, heap, spot).values()])
                    self.assertIs(all(is_heap(shape, part) for part in told), True)

    def test_the_list_is_the_askers_own(self):
        told = split((2, 2), PAIR, 0)
        told.clear()
        self.assertEqual(split((2, 2), PAIR, 0), [((0, 0),), ((1, 1),)])


class Normal(unittest.TestCase):
    def test_normal(self):
        self.assertIs(is_normal((2, 2, 2), ENDS, 0, 1), True)
        self.assertIs(is_normal((2, 2, 2), ENDS, 0, 0), False)
        self.assertIs(is_normal((2, 2), PAIR, 1, 0), False)
        self.assertIs(is_normal((2, 2), PAIR, 1, 1), True)
        self.assertIs(is_normal((3,), ((0,), (1,), (2,)), 0, 0), True)
        self.assertIs(is_normal((2, 2), tuple(rows((2, 2))), 0, 0), True)

    def test_the_sum_is_less_not_as_much(self):
        # Each row's distances to both rows come to 3, which is less than 2 times 2.
        self.assertIs(is_normal((2, 2, 2), ENDS, 2, 1), True)
        # Here they come to 4, for four spots: less than 2 times 3 only.
        self.assertIs(is_normal((2,) * 4, ((0,) * 4, (1,) * 4), 2, 1), False)
        self.assertIs(is_normal((2,) * 4, ((0,) * 4, (1,) * 4), 2, 2), True)

    def test_a_sign_without_rows(self):
        self.assertIs(is_normal((3, 2), ((0, 0), (0, 1), (2, 0), (2, 1)), 0, 2), False)
        self.assertIs(is_normal((3, 2), ((0, 0), (1, 1)), 0, 1), False)
        self.assertIs(is_normal((3, 2), (), 0, 2), False)
        self.assertIs(is_normal((2, 2), ((1, 0), (1, 1)), 0, 2), False)

    def test_of_each_heap(self):
        for shape, most in SMALL:
            for heap in heaps(shape, most):
                for spot in range(len(shape)):
                    for nearness in range(len(shape) + 1):
                        told = is_normal(shape, heap, spot, nearness)
                        self.assertIs(told, normal(shape, heap, spot, nearness))

    def test_a_normal_heap_covers(self):
        for shape, most in SMALL:
            for spot in range(len(shape)):
                for heap, nearness in normal_heaps(shape, most, spot):
                    self.assertIs(covers(shape, heap, nearness), True)


class Joined(unittest.TestCase):
    def check_joined(self, one, heap, nearness, other, heap_too, nearness_too):
        told = joined(one, heap, nearness, other, heap_too, nearness_too)
        shape, reached, both = told
        self.assertIsInstance(told, tuple)
        self.assertEqual(shape, one + other[1:])
        self.assertEqual(reached, min(nearness + nearness_too, len(one) + len(other) - 1))
        expected = [row for row in rows(shape) if row[:len(one)] in heap and row[len(one) - 1:] in heap_too]
        self.assertEqual(both, tuple(expected))
        self.assertIs(covers(shape, both, reached), True)

    def test_joined(self):
        self.assertEqual(joined((2, 2, 2), ENDS, 1, (2, 2, 2), ENDS, 1), ((2,) * 5, 2, ((0,) * 5, (1,) * 5)))
        self.assertEqual(
            joined((3, 2), ((0, 0), (1, 1), (2, 0)), 2, (2, 2), ((0, 0), (0, 1), (1, 0)), 1),
            ((3, 2, 2), 3, ((0, 0, 0), (0, 0, 1), (1, 1, 0), (2, 0, 0), (2, 0, 1))),
        )
        self.assertEqual(joined((3,), ((0,), (1,), (2,)), 0, (3,), ((0,), (1,), (2,)), 1)[1], 1)

    def test_the_nearness_of_as_many_spots_as_there_are(self):
        self.assertEqual(joined((2, 2), PAIR, 2, (2, 2), PAIR, 2), ((2, 2, 2), 3, ENDS))
        self.assertEqual(joined((2,), ((0,), (1,)), 1, (2,), ((0,), (1,)), 1), ((2,), 1, ((0,), (1,))))
        self.assertEqual(joined((2, 2), PAIR, 2, (2, 2), PAIR, 1)[1], 3)
        self.assertEqual(joined((2, 2), PAIR, 1, (2, 2), PAIR, 1)[1], 2)

    def test_of_each_two_normal_heaps(self):
        for (one, most), (other, most_too) in itertools.product(SMALL, repeat=2):
            if one[-1] != other[0]:
                continue
            firsts = normal_heaps(one, most, len(one) - 1)
            seconds = normal_heaps(other, most_too, 0)
            for place, (heap, nearness) in enumerate(firsts):
                for heap_too, nearness_too in seconds[place % 7::29]:
                    self.check_joined(one, heap, nearness, other, heap_too, nearness_too)

    def test_of_greater_heaps(self):
        seven = by_goals((2, ((0, 1, 1, 1), (1, 0, 1, 1), (1, 1, 0, 1))), ((0, 0, 0),))
        self.check_joined((2,) * 7, seven, 1, (2, 2), tuple(rows((2, 2))), 1)
        self.check_joined((2, 2), tuple(rows((2, 2))), 0, (2,) * 7, seven, 3)
        shape, nearness, heap = made(("check", 3, 3))
        self.check_joined(shape, heap, 2, shape, heap, 2)

    def test_heaps_that_are_not_normal(self):
        for (one, most), (other, most_too) in itertools.product(SMALL, repeat=2):
            for place, heap in enumerate(heaps(one, most)):
                heap_too = heaps(other, most_too)[place % 16]
                for nearness, nearness_too in itertools.product(range(len(one) + 1), range(len(other) + 1)):
                    first = normal(one, heap, len(one) - 1, nearness)
                    second = normal(other, heap_too, 0, nearness_too)
                    if one[-1] != other[0] or not first or not second:
                        with self.assertRaises(NotNormal):
                            joined(one, heap, nearness, other, heap_too, nearness_too)

    def test_only_one_of_them_is_normal(self):
        self.assertRaises(NotNormal, lambda: joined((2, 2), PAIR, 0, (2, 2), PAIR, 1))
        self.assertRaises(NotNormal, lambda: joined((2, 2), PAIR, 1, (2, 2), PAIR, 0))
        self.assertRaises(NotNormal, lambda: joined((2, 2), PAIR, 1, (2, 2), ((0, 0), (0, 1)), 2))
        self.assertRaises(NotNormal, lambda: joined((2, 2), ((0, 0), (1, 0)), 2, (2, 2), PAIR, 1))

    def test_spots_that_are_not_of_as_many_signs(self):
        for one, other in (((2,), (3,)), ((3,), (2,)), ((2, 3), (2, 3)), ((3, 2), (3, 2))):
            every, every_too = tuple(rows(one)), tuple(rows(other))
            self.assertRaises(NotNormal, lambda: joined(one, every, 1, other, every_too, 1))

    def test_the_spots_together_are_no_shape(self):
        zeros = ((0,) * 5, (1,) * 5)
        self.assertRaises(NoShape, lambda: joined((2,) * 5, zeros, 5, (2,) * 5, zeros, 5))
        self.assertRaises(NoShape, lambda: joined((9, 9), (), 2, (9, 9), (), 2))
        self.assertIs(is_shape((2,) * 8), True)
        fours = ((0,) * 4, (1,) * 4)
        self.assertEqual(joined((2,) * 5, zeros, 4, (2,) * 4, fours, 3), ((2,) * 8, 7, ((0,) * 8, (1,) * 8)))

    def test_no_shape_together_comes_before_all_else(self):
        self.assertRaises(NoShape, lambda: joined((9, 9), None, None, (9, 9), None, None))
        self.assertRaises(NoShape, lambda: joined((9, 9), (), 2, (8, 9), (), 2))


class Refusals(unittest.TestCase):
    def test_no_shape_of_anything(self):
        for thing in anything() + [(), [2, 2]]:
            with self.subTest(thing=repr(thing)):
                self.assertRaises(NoShape, lambda: split(thing, PAIR, 0))
                self.assertRaises(NoShape, lambda: is_normal(thing, PAIR, 0, 1))
                self.assertRaises(NoShape, lambda: joined(thing, PAIR, 1, (2, 2), PAIR, 1))
                self.assertRaises(NoShape, lambda: joined((2, 2), PAIR, 1, thing, PAIR, 1))

    def test_no_heap_of_anything(self):
        for thing in anything() + [[(0, 0)], ((1, 1), (0, 0)), ((0, 0), (0, 0))]:
            with self.subTest(thing=repr(thing)):
                self.assertRaises(NoHeap, lambda: split((2, 2), thing, 0))
                self.assertRaises(NoHeap, lambda: is_normal((2, 2), thing, 0, 1))
                self.assertRaises(NoHeap, lambda: joined((2, 2), thing, 1, (2, 2), PAIR, 1))
                self.assertRaises(NoHeap, lambda: joined((2, 2), PAIR, 1, (2, 2), thing, 1))
                self.assertRaises(NoHeap, lambda: joined((2, 2), PAIR, 1, (3, 2), thing, 1))

    def test_no_spot_of_anything(self):
        for thing in anything() + [(), -1, 2, 3, "0", (0,), [0]]:
            if thing in (0, 1) and not isinstance(thing, (bool, Agreeing)):
                continue
            with self.subTest(thing=repr(thing)):
                self.assertRaises(NoNumber, lambda: split((2, 2), PAIR, thing))
                self.assertRaises(NoNumber, lambda: is_normal((2, 2), PAIR, thing, 1))

    def test_no_nearness(self):
        for thing in (-1, 3, True, False, None, "1", (1,), [1], 10 ** 29):
            with self.subTest(thing=thing):
                self.assertRaises(NoNearness, lambda: is_normal((2, 2), PAIR, 0, thing))
                self.assertRaises(NoNearness, lambda: joined((2, 2), PAIR, thing, (2, 2), PAIR, 1))
                self.assertRaises(NoNearness, lambda: joined((2, 2), PAIR, 1, (2, 2), PAIR, thing))
        self.assertRaises(NoNearness, lambda: joined((2, 2), PAIR, 3, (2, 2, 2), ENDS, 2))
        self.assertEqual(joined((2, 2), PAIR, 2, (2, 2, 2), ENDS, 3)[1], 4)

    def test_the_first_refusal_in_errors_is_met(self):
        self.assertRaises(NoShape, lambda: split((1,), None, None))
        self.assertRaises(NoNumber, lambda: split((2, 2), None, None))
        self.assertRaises(NoShape, lambda: is_normal((1,), None, None, None))
        self.assertRaises(NoNearness, lambda: is_normal((2, 2), None, None, None))
        self.assertRaises(NoNumber, lambda: is_normal((2, 2), None, None, 1))
        self.assertRaises(NoHeap, lambda: is_normal((2, 2), None, 0, 1))
        self.assertRaises(NoShape, lambda: joined((2, 2), None, None, (1,), None, None))
        self.assertRaises(NoNearness, lambda: joined((2, 2), None, 1, (2, 2), None, None))
        self.assertRaises(NoNearness, lambda: joined((2, 2), None, None, (2, 2), None, 1))
        self.assertRaises(NoHeap, lambda: joined((2, 2), (), 1, (3, 2), None, 1))
        self.assertRaises(NoHeap, lambda: joined((2, 2), None, 1, (3, 2), (), 1))
        self.assertRaises(NotNormal, lambda: joined((2, 2), (), 1, (3, 2), (), 1))

    def test_what_is_handed_in_stays_and_all_is_told_alike(self):
        thing = [(1, 1), (0, 0)]
        before = copy.deepcopy(thing)
        self.assertRaises(NoHeap, lambda: split((2, 2), thing, 0))
        self.assertRaises(NoHeap, lambda: joined((2, 2), thing, 1, (2, 2), thing, 1))
        self.assertEqual(thing, before)
        self.assertEqual(joined((2, 2), PAIR, 1, (2, 2), PAIR, 1), joined((2, 2), PAIR, 1, (2, 2), PAIR, 1))


if __name__ == "__main__":
    unittest.main()
