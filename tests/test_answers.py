"""Promise 23, and 2 as far as it touches answers."""

import copy
import itertools
import unittest

from nearrows.answers import are_answers, left, not_apart
from nearrows.errors import NoAnswers, NoHeap, NoShape
from tests.samples import SHAPES, Agreeing, anything, apart, heaps, odd_things, rows


def first_pair(shape, heap):
    """The first pair that the heap doesn't tell apart, by looking at each two rows in order."""
    for one, other in itertools.combinations(rows(shape), 2):
        if all(apart(one, row) == apart(other, row) for row in heap):
            return one, other
    return None


def no_answers():
    """What are no answers of the shape 3x2."""
    spoilt = [
        *odd_things(), (), (0,), (0, 0, 0), (3, 0), (0, 2), (-1, 0), (0, -1), [0, 0], "00", (True, 0), (0, False),
    ]
    wrong_gaps = [thing for thing in odd_things() if type(thing) is not int or thing < 0] + [-1, True, False, (1,), "1"]
    return [
        *anything(), [], [((0, 0), 1)], ([(0, 0), 1],), ((0, 0), 1), (((0, 0),),), (((0, 0), 1, 1),), ((1, (0, 0)),),
        (((0, 0), 1), [(0, 0), 1]), (((0, 0), 1), ()), {(0, 0): 1}, "00=1", (Agreeing(),), ((((0, 0), 1),),),
        *[((row, 1),) for row in spoilt], *[(((0, 0), 1), (row, 1)) for row in spoilt],
        *[(((0, 0), gap),) for gap in wrong_gaps], *[(((0, 0), gap), ((0, 0), 1)) for gap in wrong_gaps],
    ]


class AreAnswers(unittest.TestCase):
    def test_answers(self):
        for answers in (
            (), (((0, 0), 0),), (((0, 0), 1), ((2, 1), 2)), (((2, 1), 2), ((0, 0), 1)), (((0, 0), 1), ((0, 0), 1)),
            (((0, 0), 1), ((0, 0), 2)), (((0, 0), 3),), (((0, 0), 10 ** 29),), tuple((row, 1) for row in rows((3, 2))) * 9,
        ):
            with self.subTest(answers=answers):
                self.assertIs(are_answers((3, 2), answers), True)
                self.assertIsInstance(left((3, 2), answers), list)

    def test_none_of_anything(self):
        for thing in no_answers():
            with self.subTest(thing=repr(thing)):
                self.assertIs(are_answers((3, 2), thing), False)
                self.assertRaises(NoAnswers, lambda: left((3, 2), thing))

    def test_rows_of_another_shape(self):
        self.assertIs(are_answers((3, 2), (((2, 1), 0),)), True)
        self.assertIs(are_answers((2, 3), (((2, 1), 0),)), False)
        self.assertIs(are_answers((3, 2, 2), (((2, 1), 0),)), False)


class Left(unittest.TestCase):
    def test_without_answers_all_rows(self):
        for shape in SHAPES:
            self.assertEqual(left(shape, ()), rows(shape))

    def test_one_answer(self):
        self.assertEqual(left((3, 2), (((0, 0), 0),)), [(0, 0)])
        self.assertEqual(left((3, 2), (((0, 0), 1),)), [(0, 1), (1, 0), (2, 0)])
        self.assertEqual(left((3, 2), (((0, 0), 2),)), [(1, 1), (2, 1)])
        self.assertEqual(left((3, 2), (((1, 1), 1),)), [(0, 1), (1, 0), (2, 1)])

    def test_distances_that_nothing_has(self):
        self.assertEqual(left((3, 2), (((0, 0), 3),)), [])
        self.assertEqual(left((3, 2), (((0, 0), 10 ** 29),)), [])
        self.assertEqual(left((3, 2), (((0, 0), 0), ((1, 1), 0))), [])

    def test_rows_told_again(self):
        self.assertEqual(left((3, 2), (((0, 0), 1), ((0, 0), 1))), [(0, 1), (1, 0), (2, 0)])
        self.assertEqual(left((3, 2), (((0, 0), 1), ((0, 0), 2))), [])

    def test_against_the_words(self):
        for shape in ((3, 2), (2, 2, 2), (4, 3)):
            every = rows(shape)
            single = [(row, gap) for row in every for gap in range(len(shape) + 2)]
            for answers in itertools.product(single[::3], single[::4]):
                fits = [row for row in every if all(apart(row, other) == gap for other, gap in answers)]
                self.assertEqual(left(shape, answers), fits)

    def test_each_row_is_left_by_its_own_distances(self):
        for shape in ((9, 9), (2,) * 8, (3, 3, 2)):
            guesses = rows(shape)[::len(rows(shape)) // 6]
            for row in rows(shape)[::7]:
                answers = tuple((guess, apart(row, guess)) for guess in guesses)
                self.assertIn(row, left(shape, answers))

    def test_many_rows_and_many_answers(self):
        shape = (2,) * 8
        answers = tuple((row, apart(row, (1, 0) * 4)) for row in rows(shape))
        self.assertEqual(left(shape, answers), [(1, 0) * 4])
        self.assertEqual(left(shape, answers[::-1]), [(1, 0) * 4])


class NotApart(unittest.TestCase):
    def test_pairs(self):
        self.assertEqual(not_apart((3, 2), ((0, 0),)), ((0, 1), (1, 0)))
        self.assertEqual(not_apart((3,), ((0,),)), ((1,), (2,)))
        self.assertIsNone(not_apart((3,), ((0,), (1,))))
        self.assertIsNone(not_apart((2,), ((0,),)))
        self.assertEqual(not_apart((9,), ((0,), (1,), (2,), (3,), (5,), (6,), (7,))), ((4,), (8,)))

    def test_the_heap_of_no_rows(self):
        for shape in SHAPES:
            self.assertEqual(not_apart(shape, ()), tuple(rows(shape)[:2]))

    def test_all_rows_tell_all_apart(self):
        for shape in [*SHAPES, (2,) * 8]:
            self.assertIsNone(not_apart(shape, tuple(rows(shape))))

    def test_against_each_two_rows(self):
        for shape in ((3, 2), (2, 2, 2), (5,), (3, 3)):
            told = set()
            for heap in heaps(shape, 4):
                found = not_apart(shape, heap)
                told.add(found is None)
                self.assertEqual(found, first_pair(shape, heap))
                self.assertIn(type(found), (tuple, type(None)))
            self.assertEqual(told, {True, False})

    def test_the_least_one_then_the_least_other(self):
        self.assertEqual(not_apart((3, 3), ((0, 0),)), ((0, 1), (0, 2)))
        self.assertEqual(not_apart((3, 3), ((0, 0), (0, 1))), ((1, 0), (2, 0)))
        # Within the first pair lies another one: here (0, 1), (1, 0), and then (0, 2), (1, 0).
        self.assertEqual(not_apart((3, 2), ((1, 1),)), ((0, 0), (2, 0)))
        self.assertEqual(not_apart((3, 3), ((0, 0), (1, 2))), ((0, 1), (2, 0)))
        # (0, 0) is as far as (1, 1), (1, 2) and (2, 0).
        self.assertEqual(not_apart((3, 3), ((1, 0),)), ((0, 0), (1, 1)))

    def test_a_pair_is_left_by_the_same_answers(self):
        for heap in heaps((3, 3), 2):
            pair = not_apart((3, 3), heap)
            answers = tuple((row, apart(row, pair[0])) for row in heap)
            self.assertLessEqual(set(pair), set(left((3, 3), answers)))


class Refusals(unittest.TestCase):
    def test_no_shape_of_anything(self):
        for thing in [*anything(), ()]:
            with self.subTest(thing=repr(thing)):
                self.assertRaises(NoShape, lambda: are_answers(thing, ()))
                self.assertRaises(NoShape, lambda: are_answers(thing, None))
                self.assertRaises(NoShape, lambda: left(thing, ()))
                self.assertRaises(NoShape, lambda: left(thing, None))
                self.assertRaises(NoShape, lambda: not_apart(thing, ()))
                self.assertRaises(NoShape, lambda: not_apart(thing, None))

    def test_no_heap_of_anything(self):
        for thing in [*anything(), [], ((1, 0), (0, 0)), ((0, 0), (0, 0)), ((0, 2),), [(0, 0)]]:
            with self.subTest(thing=repr(thing)):
                self.assertRaises(NoHeap, lambda: not_apart((3, 2), thing))


class Alike(unittest.TestCase):
    def test_lists_that_are_told_are_the_askers_own(self):
        told = left((3, 2), ())
        told.clear()
        self.assertEqual(left((3, 2), ()), rows((3, 2)))

    def test_what_is_handed_in_stays(self):
        thing = [[[0, 0], 1]]
        before = copy.deepcopy(thing)
        self.assertIs(are_answers((3, 2), thing), False)
        self.assertIs(are_answers((3, 2), tuple(thing)), False)
        self.assertEqual(thing, before)

    def test_asked_again_all_is_told_alike(self):
        answers = (((0, 0), 1), ((2, 1), 1))
        self.assertEqual(left((3, 2), answers), left((3, 2), answers))
        self.assertEqual(not_apart((3, 2), ((0, 0),)), not_apart((3, 2), ((0, 0),)))


if __name__ == "__main__":
    unittest.main()
