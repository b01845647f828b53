"""Promises 4 and 5, and 2 as far as it touches shapes."""

import copy
import unittest

from nearrows.errors import NoNearness, NoRow, NoShape
from nearrows.shapes import all_rows, ball, ball_size, distance, is_row, is_shape, size
from tests.samples import SHAPES, anything, apart, rows


class Shapes(unittest.TestCase):
    def test_shapes(self):
        for shape in SHAPES + [(2,) * 8, (4,) * 4, (2, 2, 8, 8), (9, 7, 4), (3,) * 5, (5, 5, 5, 2)]:
            with self.subTest(shape=shape):
                self.assertIs(is_shape(shape), True)

    def test_edges_of_the_numbers(self):
        for signs in range(-2, 12):
            for shape in ((signs,), (signs, 2), (2, 2, signs)):
                with self.subTest(shape=shape):
                    self.assertIs(is_shape(shape), 2 <= signs <= 9)

    def test_edges_of_the_spots(self):
        for many in range(0, 12):
            with self.subTest(many=many):
                self.assertIs(is_shape((2,) * many), 1 <= many <= 8)

    def test_edges_of_the_size(self):
        for shape in ((2,) * 8, (4,) * 4, (8, 8, 4), (2, 8, 4, 4)):
            self.assertIs(is_shape(shape), True)
            self.assertEqual(size(shape), 256)
        # 270 is the least product beyond 256 of numbers from 2 to 9.
        for shape in ((5, 6, 9), (2, 5, 3, 3, 3), (3,) + (2,) * 7, (9, 9, 4), (2, 2, 8, 8, 2), (9,) * 8):
            self.assertIs(is_shape(shape), False)
            self.assertRaises(NoShape, lambda: size(shape))

    def test_true_and_false_are_no_whole_numbers(self):
        for shape in ((True,), (False,), (True, 2), (2, True), (2, False)):
            self.assertIs(is_shape(shape), False)

    def test_no_shape_of_anything(self):
        for thing in anything() + [(), [2, 2], (2, [2]), "2x2", "22", (1, 2), (2, 10)]:
            with self.subTest(thing=repr(thing)):
                self.assertIs(is_shape(thing), False)

    def test_no_shape_is_refused(self):
        for thing in anything() + [(), [2, 2], (1,), (2,) * 9, (True, 2)]:
            with self.subTest(thing=repr(thing)):
                for ask in (
                    lambda: size(thing), lambda: all_rows(thing), lambda: is_row(thing, (0, 0)),
                    lambda: distance(thing, (0, 0), (0, 1)), lambda: ball(thing, (0, 0), 1),
                    lambda: ball_size(thing, 1),
                ):
                    self.assertRaises(NoShape, ask)


class Rows(unittest.TestCase):
    def test_size(self):
        self.assertEqual([size(shape) for shape in ((2,), (9,), (3, 2), (3, 3, 2), (9, 9))], [2, 9, 6, 18, 81])

    def test_all_rows_in_order(self):
        self.assertEqual(all_rows((3, 2)), [(0, 0), (0, 1), (1, 0), (1, 1), (2, 0), (2, 1)])
        for shape in SHAPES + [(2,) * 8]:
            with self.subTest(shape=shape):
                told = all_rows(shape)
                self.assertIsInstance(told, list)
                self.assertEqual(told, rows(shape))
                self.assertEqual(told, sorted(told))
                self.assertEqual(len(told), size(shape))

    def test_each_row_is_one(self):
        for shape in SHAPES:
            for row in rows(shape):
                self.assertIs(is_row(shape, row), True)

    def test_edges_of_the_signs(self):
        for sign in range(-3, 6):
            self.assertIs(is_row((3, 2), (sign, 0)), 0 <= sign < 3)
            self.assertIs(is_row((3, 2), (0, sign)), 0 <= sign < 2)

    def test_no_row_of_anything(self):
        for thing in anything() + [(), [0, 0], (0,), (0, 0, 0), (True, 0), (0, False), (3, 0), (0, 2), "00"]:
            with self.subTest(thing=repr(thing)):
                self.assertIs(is_row((3, 2), thing), False)

    def test_no_row_is_refused(self):
        for thing in anything() + [(), [0, 0], (0,), (True, 0), (0, False), (3, 0)]:
            with self.subTest(thing=repr(thing)):
                self.assertRaises(NoRow, lambda: distance((3, 2), thing, (0, 0)))
                self.assertRaises(NoRow, lambda: distance((3, 2), (0, 0), thing))
                self.assertRaises(NoRow, lambda: ball((3, 2), thing, 1))

    def test_distance(self):
        self.assertEqual(distance((3, 3, 2), (0, 2, 1), (0, 2, 1)), 0)
        self.assertEqual(distance((3, 3, 2), (0, 2, 1), (2, 2, 1)), 1)
        self.assertEqual(distance((3, 3, 2), (0, 2, 1), (1, 2, 0)), 2)
        self.assertEqual(distance((3, 3, 2), (0, 2, 1), (1, 0, 0)), 3)
        self.assertEqual(distance((2,) * 8, (0,) * 8, (1,) * 8), 8)
        for one in rows((3, 2, 3)):
            for other in rows((3, 2, 3)):
                self.assertEqual(distance((3, 2, 3), one, other), apart(one, other))


class Balls(unittest.TestCase):
    def test_a_ball(self):
        self.assertEqual(ball((3, 2), (1, 0), 0), [(1, 0)])
        self.assertEqual(ball((3, 2), (1, 0), 1), [(0, 0), (1, 0), (1, 1), (2, 0)])
        self.assertEqual(ball((3, 2), (1, 0), 2), rows((3, 2)))

    def test_balls_by_each_nearness(self):
        for shape in SHAPES:
            for nearness in range(len(shape) + 1):
                many = ball_size(shape, nearness)
                for row in rows(shape):
                    told = ball(shape, row, nearness)
                    self.assertIsInstance(told, list)
                    self.assertEqual(told, [other for other in rows(shape) if apart(row, other) <= nearness])
                    self.assertEqual(len(told), many)

    def test_ball_size(self):
        self.assertEqual([ball_size((2,) * 8, nearness) for nearness in range(9)], [1, 9, 37, 93, 163, 219, 247, 255, 256])
        self.assertEqual([ball_size((9,), nearness) for nearness in range(2)], [1, 9])
        self.assertEqual([ball_size((3, 3, 2), nearness) for nearness in range(4)], [1, 6, 14, 18])

    def test_edges_of_the_nearness(self):
        for shape in ((2,), (3, 3, 2), (2,) * 8):
            row = (0,) * len(shape)
            for nearness in (-1, len(shape) + 1, 10 ** 29):
                self.assertRaises(NoNearness, lambda: ball(shape, row, nearness))
                self.assertRaises(NoNearness, lambda: ball_size(shape, nearness))

    def test_no_nearness_of_anything(self):
        for thing in anything() + [(), (1,), [1], "1"]:
            if thing in (0, 1, 2) and thing is not True and thing is not False:
                continue
            with self.subTest(thing=repr(thing)):
                self.assertRaises(NoNearness, lambda: ball((3, 2), (0, 0), thing))
                self.assertRaises(NoNearness, lambda: ball_size((3, 2), thing))


class Manners(unittest.TestCase):
    def test_lists_are_the_askers_own(self):
        for ask in (lambda: all_rows((3, 2)), lambda: ball((3, 2), (1, 0), 1)):
            told = ask()
            kept = list(told)
            told.reverse()
            told.append("more")
            self.assertEqual(ask(), kept)

    def test_what_is_handed_in_stays(self):
        for thing in ([2, 2], [0, [1]], {2: [2]}, {"a"}, ([2], [2])):
            before = copy.deepcopy(thing)
            self.assertIs(is_shape(thing), False)
            self.assertIs(is_row((3, 2), thing), False)
            self.assertRaises(NoRow, lambda: ball((3, 2), thing, 1))
            self.assertEqual(thing, before)

    def test_the_first_refusal_in_errors_is_met(self):
        self.assertRaises(NoShape, lambda: is_row([2], "no"))
        self.assertRaises(NoShape, lambda: distance((1,), None, None))
        self.assertRaises(NoShape, lambda: ball((), "no", "no"))
        self.assertRaises(NoShape, lambda: ball_size((), "no"))
        self.assertRaises(NoRow, lambda: ball((3, 2), (0,), 5))


if __name__ == "__main__":
    unittest.main()
