"""Promise 9, and 2 as far as it touches thin."""

import unittest

from nearrows.errors import NoHeap, NoNearness, NoRow, NoShape, NotCovering
from nearrows.thin import is_perfect, is_thin, own_rows, thinned
from tests.samples import anything, apart, heaps, rows

SMALL = [((3, 2), 6), ((2, 2, 2), 5), ((2, 3, 2), 3), ((9,), 2)]


def own(shape, heap, row, nearness):
    """The own rows, as the document words it."""
    others = [other for other in heap if other != row]
    return [
        near for near in rows(shape)
        if apart(row, near) <= nearness and all(apart(other, near) > nearness for other in others)
    ]


def far(shape, heap, nearness):
    """The far rows, as the document words it."""
    return [row for row in rows(shape) if all(apart(row, other) > nearness for other in heap)]


def left_out_again_and_again(shape, heap, nearness):
    """The thinned heap, each step looked for from the first row on."""
    kept = list(heap)
    while True:
        needless = [row for row in kept if not own(shape, kept, row, nearness)]
        if not needless:
            return tuple(kept)
        kept.remove(needless[0])


def each_heap():
    """Each small shape, heap and nearness."""
    return [
        (shape, heap, nearness)
        for shape, most in SMALL for heap in heaps(shape, most) for nearness in range(len(shape) + 1)
    ]


class OwnRows(unittest.TestCase):
    def test_own_rows(self):
        heap = ((0, 0), (1, 1))
        self.assertEqual(own_rows((3, 2), heap, (0, 0), 1), [(0, 0), (2, 0)])
        self.assertEqual(own_rows((3, 2), heap, (1, 1), 1), [(1, 1), (2, 1)])
        self.assertEqual(own_rows((3, 2), heap, (1, 1), 0), [(1, 1)])
        self.assertEqual(own_rows((3, 2), heap, (1, 1), 2), [])
        self.assertEqual(own_rows((3, 2), ((1, 1),), (1, 1), 2), rows((3, 2)))

    def test_of_each_row(self):
        for shape, heap, nearness in each_heap():
            for row in heap:
                told = own_rows(shape, heap, row, nearness)
                self.assertIsInstance(told, list)
                self.assertEqual(told, own(shape, heap, row, nearness))

    def test_a_row_that_is_not_in_the_heap(self):
        self.assertRaises(NoRow, lambda: own_rows((3, 2), ((0, 0), (1, 1)), (0, 1), 1))
        self.assertRaises(NoRow, lambda: own_rows((3, 2), (), (0, 1), 1))

    def test_the_list_is_the_askers_own(self):
        told = own_rows((3, 2), ((0, 0), (1, 1)), (0, 0), 1)
        told.append((1, 1))
        self.assertEqual(own_rows((3, 2), ((0, 0), (1, 1)), (0, 0), 1), [(0, 0), (2, 0)])


class Thin(unittest.TestCase):
    def test_thin(self):
        ends = ((0, 0, 0), (1, 1, 1))
        self.assertIs(is_thin((2, 2, 2), ends, 1), True)
        self.assertIs(is_thin((2, 2, 2), ((0, 0, 0), (0, 0, 1), (1, 1, 1)), 1), False)
        self.assertIs(is_thin((2, 2, 2), ends, 0), False)
        self.assertIs(is_thin((2, 2, 2), ends, 2), True)
        self.assertIs(is_thin((2, 2, 2), ends, 3), False)
        self.assertIs(is_thin((2, 2, 2), ((0, 0, 0),), 1), False)
        self.assertIs(is_thin((2, 2, 2), (), 3), False)

    def test_of_each_heap(self):
        for shape, heap, nearness in each_heap():
            owners = all(own(shape, heap, row, nearness) for row in heap)
            self.assertIs(is_thin(shape, heap, nearness), not far(shape, heap, nearness) and owners)


class Thinned(unittest.TestCase):
    def test_thinned(self):
        self.assertEqual(thinned((3, 2), tuple(rows((3, 2))), 2), ((2, 1),))
        self.assertEqual(thinned((3, 2), tuple(rows((3, 2))), 1), ((2, 0), (2, 1)))
        self.assertEqual(thinned((3, 2), tuple(rows((3, 2))), 0), tuple(rows((3, 2))))
        self.assertEqual(thinned((2, 2, 2), ((0, 0, 0), (1, 1, 1)), 1), ((0, 0, 0), (1, 1, 1)))

    def test_of_each_heap(self):
        for shape, heap, nearness in each_heap():
            missed = far(shape, heap, nearness)
            if missed:
                with self.assertRaises(NotCovering) as caught:
                    thinned(shape, heap, nearness)
                self.assertEqual(caught.exception.row, missed[0])
            else:
                told = thinned(shape, heap, nearness)
                self.assertEqual(told, left_out_again_and_again(shape, heap, nearness))
                self.assertIsInstance(told, tuple)
                self.assertIs(is_thin(shape, told, nearness), True)
                self.assertEqual(thinned(shape, told, nearness), told)

    def test_of_many_rows(self):
        shape = (2,) * 8
        for nearness in (1, 2, 5):
            told = thinned(shape, tuple(rows(shape)), nearness)
            self.assertEqual(told, thinned(shape, tuple(rows(shape)), nearness))
            self.assertIs(is_thin(shape, told, nearness), True)


class Perfect(unittest.TestCase):
    def test_perfect(self):
        self.assertIs(is_perfect((2, 2, 2), ((0, 0, 0), (1, 1, 1)), 1), True)
        self.assertIs(is_perfect((2, 2, 2), ((0, 0, 0), (1, 1, 0)), 1), False)
        self.assertIs(is_perfect((2, 2, 2), ((0, 0, 0),), 1), False)
        self.assertIs(is_perfect((2, 2, 2), ((0, 0, 0),), 3), True)
        self.assertIs(is_perfect((2, 2, 2), ((0, 0, 0), (1, 1, 1)), 3), False)
        self.assertIs(is_perfect((3, 2), tuple(rows((3, 2))), 0), True)
        self.assertIs(is_perfect((3, 2), (), 2), False)

    def test_the_perfect_one_of_four_spots(self):
        lines = tuple(sorted((a, b, (a + b) % 3, (a + 2 * b) % 3) for a in range(3) for b in range(3)))
        self.assertIs(is_perfect((3,) * 4, lines, 1), True)
        self.assertIs(is_perfect((3,) * 4, lines[1:], 1), False)

    def test_of_each_heap(self):
        for shape, heap, nearness in each_heap():
            once = all(sum(apart(row, other) <= nearness for other in heap) == 1 for row in rows(shape))
            self.assertIs(is_perfect(shape, heap, nearness), once)


class Refusals(unittest.TestCase):
    def test_of_anything(self):
        for thing in anything() + [[(0, 0)], ((1, 0), (0, 0)), ((0, 0), (0, 0))]:
            with self.subTest(thing=repr(thing)):
                self.assertRaises(NoRow, lambda: own_rows((3, 2), ((0, 0),), thing, 1))
                self.assertRaises(NoHeap, lambda: own_rows((3, 2), thing, (0, 0), 1))
                self.assertRaises(NoShape, lambda: own_rows(thing, ((0, 0),), (0, 0), 1))
                for ask in (is_thin, thinned, is_perfect):
                    self.assertRaises(NoHeap, lambda: ask((3, 2), thing, 1))
                    self.assertRaises(NoShape, lambda: ask(thing, ((0, 0),), 1))

    def test_no_nearness(self):
        for thing in (-1, 3, True, False, None, "1", (1,), [1], 10 ** 29):
            with self.subTest(thing=thing):
                self.assertRaises(NoNearness, lambda: own_rows((3, 2), ((0, 0),), (0, 0), thing))
                for ask in (is_thin, thinned, is_perfect):
                    self.assertRaises(NoNearness, lambda: ask((3, 2), ((0, 0),), thing))

    def test_the_first_refusal_in_errors_is_met(self):
        self.assertRaises(NoShape, lambda: own_rows((1,), None, None, None))
        self.assertRaises(NoRow, lambda: own_rows((3, 2), None, None, None))
        self.assertRaises(NoNearness, lambda: own_rows((3, 2), None, (0, 0), None))
        self.assertRaises(NoHeap, lambda: own_rows((3, 2), None, (0, 0), 1))
        for ask in (is_thin, thinned, is_perfect):
            self.assertRaises(NoShape, lambda: ask((1,), None, None))
            self.assertRaises(NoNearness, lambda: ask((3, 2), None, None))

    def test_a_row_that_is_not_in_the_heap_comes_behind(self):
        self.assertRaises(NoNearness, lambda: own_rows((3, 2), ((0, 0),), (0, 1), 3))
        self.assertRaises(NoHeap, lambda: own_rows((3, 2), [(0, 0)], (0, 1), 1))
        self.assertRaises(NoHeap, lambda: own_rows((3, 2), ((1, 0), (0, 0)), (0, 1), 1))

    def test_what_is_handed_in_stays(self):
        heap = [(1, 0), (0, 0)]
        self.assertRaises(NoHeap, lambda: thinned((3, 2), heap, 1))
        self.assertEqual(heap, [(1, 0), (0, 0)])


if __name__ == "__main__":
    unittest.main()
