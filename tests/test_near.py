"""Promise 8, and 2 as far as it touches near."""

import unittest

from nearrows.errors import NoHeap, NoNearness, NoNumber, NoRow, NoShape
from nearrows.near import covers, far, nearest, reach
from tests.samples import anything, apart, heaps, rows

SMALL = [((3, 2), 6), ((2, 2, 2), 4), ((2, 3, 2), 3), ((9,), 2)]


def near_rows(heap, row, nearness):
    """The rows of the heap that are near this one."""
    return [other for other in heap if apart(row, other) <= nearness]


class Nearest(unittest.TestCase):
    def test_nearest(self):
        heap = ((0, 0, 0), (0, 2, 1), (1, 1, 1))
        self.assertEqual(nearest((3, 3, 2), heap, (0, 2, 1)), (0, (0, 2, 1)))
        self.assertEqual(nearest((3, 3, 2), heap, (2, 2, 1)), (1, (0, 2, 1)))
        self.assertEqual(nearest((3, 3, 2), heap, (0, 1, 1)), (1, (0, 2, 1)))
        self.assertEqual(nearest((3, 3, 2), heap, (2, 2, 0)), (2, (0, 0, 0)))
        self.assertEqual(nearest((3, 3, 2), ((1, 1, 1),), (2, 2, 0)), (3, (1, 1, 1)))

    def test_of_no_rows(self):
        self.assertIsNone(nearest((3, 3, 2), (), (0, 2, 1)))

    def test_the_first_at_the_least_distance(self):
        for shape, most in SMALL:
            for heap in heaps(shape, most)[1:]:
                for row in rows(shape):
                    self.assertEqual(nearest(shape, heap, row), min((apart(row, other), other) for other in heap))


class Far(unittest.TestCase):
    def test_far(self):
        self.assertEqual(far((3, 2), ((0, 0),), 1), [(1, 1), (2, 1)])
        self.assertEqual(far((3, 2), ((0, 0),), 0), [(0, 1), (1, 0), (1, 1), (2, 0), (2, 1)])
        self.assertEqual(far((3, 2), ((0, 0),), 2), [])
        self.assertEqual(far((3, 2), (), 2), rows((3, 2)))

    def test_just_those_that_no_row_is_near(self):
        for shape, most in SMALL:
            for heap in heaps(shape, most):
                for nearness in range(len(shape) + 1):
                    told = far(shape, heap, nearness)
                    self.assertIsInstance(told, list)
                    self.assertEqual(told, [row for row in rows(shape) if not near_rows(heap, row, nearness)])

    def test_the_list_is_the_askers_own(self):
        told = far((3, 2), ((0, 0),), 1)
        told.clear()
        self.assertEqual(far((3, 2), ((0, 0),), 1), [(1, 1), (2, 1)])


class Covers(unittest.TestCase):
    def test_covers(self):
        ends = ((0, 0, 0), (1, 1, 1))
        self.assertIs(covers((2, 2, 2), ends, 1, 1), True)
        self.assertIs(covers((2, 2, 2), ends, 1, 2), False)
        self.assertIs(covers((2, 2, 2), ends, 0, 1), False)
        self.assertIs(covers((2, 2, 2), ends, 3, 2), True)
        self.assertIs(covers((2, 2, 2), ends, 3, 3), False)
        self.assertIs(covers((2, 2, 2), ends, 3, 10 ** 29), False)
        self.assertIs(covers((2, 2, 2), (), 3, 1), False)

    def test_each_row_so_often(self):
        for shape, most in SMALL:
            for heap in heaps(shape, most):
                for nearness in range(len(shape) + 1):
                    least = min(len(near_rows(heap, row, nearness)) for row in rows(shape))
                    for often in range(1, most + 2):
                        self.assertIs(covers(shape, heap, nearness, often), often <= least)

    def test_all_rows_cover_as_often_as_a_ball_has_rows(self):
        shape = (2,) * 8
        self.assertIs(covers(shape, tuple(rows(shape)), 1, 9), True)
        self.assertIs(covers(shape, tuple(rows(shape)), 1, 10), False)

    def test_no_number_of_anything(self):
        for thing in anything() + [(), (1,), [1], "1", 0, -1]:
            if isinstance(thing, int) and not isinstance(thing, bool) and thing >= 1:
                continue
            with self.subTest(thing=repr(thing)):
                self.assertRaises(NoNumber, lambda: covers((3, 2), ((0, 0),), 1, thing))


class Reach(unittest.TestCase):
    def test_reach(self):
        self.assertEqual(reach((3, 2), ((0, 0),)), (2, (1, 1)))
        self.assertEqual(reach((2, 2, 2), ((0, 0, 0), (1, 1, 1))), (1, (0, 0, 1)))
        self.assertEqual(reach((3, 2), tuple(rows((3, 2)))), (0, (0, 0)))
        self.assertEqual(reach((2,) * 8, ((0,) * 8,)), (8, (1,) * 8))

    def test_the_least_nearness_and_the_first_row_so_far(self):
        for shape, most in SMALL:
            for heap in heaps(shape, most)[1:]:
                gaps = {row: min(apart(row, other) for other in heap) for row in rows(shape)}
                least = min(nearness for nearness in range(9) if all(gap <= nearness for gap in gaps.values()))
                first = next(row for row in rows(shape) if gaps[row] == least)
                self.assertEqual(reach(shape, heap), (least, first))

    def test_no_rows_are_refused(self):
        self.assertRaises(NoHeap, lambda: reach((3, 2), ()))


class Refusals(unittest.TestCase):
    def test_of_anything(self):
        for thing in anything() + [[(0, 0)], ((1, 0), (0, 0)), ((0, 0), (0, 0))]:
            with self.subTest(thing=repr(thing)):
                self.assertRaises(NoHeap, lambda: nearest((3, 2), thing, (0, 0)))
                self.assertRaises(NoHeap, lambda: far((3, 2), thing, 1))
                self.assertRaises(NoHeap, lambda: covers((3, 2), thing, 1, 1))
                self.assertRaises(NoHeap, lambda: reach((3, 2), thing))
                self.assertRaises(NoRow, lambda: nearest((3, 2), (), thing))
                self.assertRaises(NoShape, lambda: nearest(thing, (), (0, 0)))
                self.assertRaises(NoShape, lambda: far(thing, (), 1))
                self.assertRaises(NoShape, lambda: covers(thing, (), 1, 1))
                self.assertRaises(NoShape, lambda: reach(thing, ((0, 0),)))

    def test_no_nearness(self):
        for thing in (-1, 3, True, False, None, "1", (1,), [1], 10 ** 29):
            with self.subTest(thing=thing):
                self.assertRaises(NoNearness, lambda: far((3, 2), (), thing))
                self.assertRaises(NoNearness, lambda: covers((3, 2), (), thing, 1))

    def test_the_first_refusal_in_errors_is_met(self):
        self.assertRaises(NoShape, lambda: nearest((1,), None, None))
        self.assertRaises(NoRow, lambda: nearest((3, 2), None, None))
        self.assertRaises(NoShape, lambda: far((1,), None, None))
        self.assertRaises(NoNearness, lambda: far((3, 2), None, None))
        self.assertRaises(NoShape, lambda: covers((1,), None, None, None))
        self.assertRaises(NoNearness, lambda: covers((3, 2), None, None, None))
        self.assertRaises(NoNumber, lambda: covers((3, 2), None, 1, None))
        self.assertRaises(NoShape, lambda: reach((1,), ()))

    def test_what_is_handed_in_stays(self):
        heap = [(1, 0), (0, 0)]
        self.assertRaises(NoHeap, lambda: far((3, 2), heap, 1))
        self.assertEqual(heap, [(1, 0), (0, 0)])


if __name__ == "__main__":
    unittest.main()
