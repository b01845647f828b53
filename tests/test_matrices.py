"""Promise 15, and 2 as far as it touches matrices."""

import copy
import itertools
import unittest

from nearrows.errors import NoGoals, NoMatrix, NoRow
from nearrows.heaps import is_heap
from nearrows.matrices import by_goals, checks, goals_reach, is_matrix
from nearrows.near import reach
from tests.samples import Agreeing, anything, odd_things, rows

SEVEN = (2, ((0, 1, 1, 1), (1, 0, 1, 1), (1, 1, 0, 1)))
FOUR = (3, ((1, 1), (1, 2)))
BARE = (4, ((), ()))
SMALL = [
    SEVEN, FOUR, BARE, (2, ((),)), (9, ((),)), (9, ((8,),)), (3, ((0, 2, 1),)), (4, ((2,), (3,))), (6, ((4,),)),
    (2, ((1,), (0,), (1,))), (5, ((3,), (1,))),
]


def shape_of(matrix):
    """The shape of the rows that a matrix checks."""
    return (matrix[0],) * (len(matrix[1]) + len(matrix[1][0]))


def tuples_of(matrix):
    """All that checks may come to, in order."""
    return rows((matrix[0],) * len(matrix[1]))


def checked(matrix, row):
    """The checks as the document words them."""
    q, lines = matrix
    told = []
    for j in range(len(lines)):
        number = row[j]
        for at in range(len(lines[j])):
            number += lines[j][at] * row[len(lines) + at]
        while number >= q:
            number -= q
        told.append(number)
    return tuple(told)


def some_goals(matrix):
    """Goals of one, of two, of some and of all tuples."""
    every = tuples_of(matrix)
    pairs = list(itertools.combinations(every, 2))
    return [(one,) for one in every[:5]] + pairs[:3] + pairs[-3:] + [tuple(every), tuple(every[1::2]) or (every[0],)]


def least(matrix, goals):
    """The least t such that each tuple is a goal and the checks of a row with at most t signs other than 0."""
    q = matrix[0]
    told = [(checked(matrix, row), sum(sign != 0 for sign in row)) for row in rows(shape_of(matrix))]
    for t in range(9):
        come = {
            tuple((number + more) % q for number, more in zip(goal, found))
            for goal in goals for found, signs in told if signs <= t
        }
        if come == set(tuples_of(matrix)):
            return t


class IsMatrix(unittest.TestCase):
    def test_matrices(self):
        for matrix in SMALL:
            self.assertIs(is_matrix(matrix), True)

    def test_each_number_of_rows_and_numbers(self):
        for q, many, long in itertools.product(range(12), range(11), range(11)):
            with self.subTest(q=q, many=many, long=long):
                fits = 2 <= q <= 9 and 1 <= many and many + long <= 8 and q ** (many + long) <= 256
                self.assertIs(is_matrix((q, ((0,) * long,) * many)), fits)
                self.assertIs(is_matrix((q, ((1,) * long,) * many)), fits)

    def test_no_numbers_in_the_rows(self):
        self.assertIs(is_matrix((2, ((),) * 8)), True)
        self.assertIs(is_matrix((2, ((),) * 9)), False)
        self.assertIs(is_matrix((9, ((),) * 2)), True)
        self.assertIs(is_matrix((9, ((),) * 3)), False)

    def test_at_most_eight_spots(self):
        self.assertIs(is_matrix((2, ((0,) * 7,))), True)
        self.assertIs(is_matrix((2, ((0,) * 8,))), False)
        self.assertIs(is_matrix((2, ((0,) * 4,) * 4)), True)
        self.assertIs(is_matrix((2, ((0,) * 5,) * 4)), False)

    def test_only_rows_of_as_many_numbers(self):
        for lines in (((0,), ()), ((), (0,)), ((0,), (0, 0)), ((0, 0), (0,)), ((0,), (0,), (0, 0))):
            with self.subTest(lines=lines):
                self.assertIs(is_matrix((2, lines)), False)

    def test_only_numbers_below_the_signs(self):
        for number in range(-2, 12):
            for q in range(2, 5):
                self.assertIs(is_matrix((q, ((0, number), (1, 0)))), number in range(q))
                self.assertIs(is_matrix((q, ((0, 1), (number, 0)))), number in range(q))

    def test_only_of_whole_numbers_and_tuples(self):
        for thing in odd_things() + ["0", (), (0,)]:
            with self.subTest(thing=repr(thing)):
                self.assertIs(is_matrix((thing, ((0,), (0,)))), False)
                self.assertIs(is_matrix((2, ((0,), (thing,)))), False)
                self.assertIs(is_matrix((2, ((thing,), (0,)))), False)
                if not isinstance(thing, tuple):
                    self.assertIs(is_matrix((2, ((0,), thing))), False)
                    self.assertIs(is_matrix((2, (thing, (0,)))), False)
                    self.assertIs(is_matrix((2, thing)), False)

    def test_lists_and_other_lengths(self):
        for thing in (
            [2, ((0,),)], (2, [(0,)]), (2, ([0],)), (2,), (2, ((0,),), 2), (2, ()), (2, (0,)), ((0,),), (2, (((0,),),)),
            (2, ((), 0)), (True, ((0,),)), (2, ((True,),)), (2, ((False,),)),
        ):
            with self.subTest(thing=thing):
                self.assertIs(is_matrix(thing), False)

    def test_no_matrix_of_anything(self):
        for thing in anything() + [()]:
            with self.subTest(thing=repr(thing)):
                self.assertIs(is_matrix(thing), False)
                self.assertRaises(NoMatrix, lambda: checks(thing, (0, 0)))
                self.assertRaises(NoMatrix, lambda: by_goals(thing, ((0,),)))
                self.assertRaises(NoMatrix, lambda: goals_reach(thing, ((0,),)))


class Checks(unittest.TestCase):
    def test_checks(self):
        self.assertEqual(checks(SEVEN, (0,) * 7), (0, 0, 0))
        self.assertEqual(checks(SEVEN, (1, 0, 0, 0, 0, 0, 1)), (0, 1, 1))
        self.assertEqual(checks(SEVEN, (0, 1, 0, 1, 1, 0, 0)), (1, 0, 0))
        self.assertEqual(checks(FOUR, (2, 1, 1, 2)), (2, 0))
        self.assertEqual(checks((9, ((8,),)), (5, 7)), (7,))
        self.assertEqual(checks((6, ((4,),)), (2, 1)), (0,))

    def test_without_numbers_it_is_the_row_itself(self):
        for row in rows((4, 4)):
            self.assertEqual(checks(BARE, row), row)

    def test_of_each_row(self):
        for matrix in SMALL:
            for row in rows(shape_of(matrix)):
                told = checks(matrix, row)
                self.assertIsInstance(told, tuple)
                self.assertEqual(told, checked(matrix, row))

    def test_no_row_of_anything(self):
        for thing in anything() + [(), (3, 0), (0, 3), (0,), (0, 0, 0), [0, 0], "00", (True, 0)]:
            with self.subTest(thing=repr(thing)):
                self.assertRaises(NoRow, lambda: checks((3, ((2,),)), thing))

    def test_no_row_stands_behind_no_matrix(self):
        for thing in anything() + [()]:
            with self.subTest(thing=repr(thing)):
                self.assertRaises(NoMatrix, lambda: checks((3, ((3,),)), thing))
                self.assertRaises(NoMatrix, lambda: checks(thing, thing))


class ByGoals(unittest.TestCase):
    def test_by_goals(self):
        self.assertEqual(by_goals((2, ((1,),)), ((0,),)), ((0, 0), (1, 1)))
        self.assertEqual(by_goals((2, ((1,),)), ((1,),)), ((0, 1), (1, 0)))
        self.assertEqual(by_goals((2, ((0,),)), ((1,),)), ((1, 0), (1, 1)))
        self.assertEqual(by_goals((3, ((),)), ((0,), (2,))), ((0,), (2,)))
        self.assertEqual(len(by_goals(SEVEN, ((0, 0, 0),))), 16)
        self.assertEqual(by_goals(FOUR, ((0, 0),))[1], (0, 1, 1, 2))

    def test_all_rows_whose_checks_are_among_them(self):
        for matrix in SMALL:
            for goals in some_goals(matrix):
                told = by_goals(matrix, goals)
                self.assertIs(is_heap(shape_of(matrix), told), True)
                expected = [row for row in rows(shape_of(matrix)) if checked(matrix, row) in goals]
                self.assertEqual(told, tuple(expected))
                self.assertEqual(len(told), len(goals) * matrix[0] ** len(matrix[1][0]))


class GoalsReach(unittest.TestCase):
    def test_goals_reach(self):
        self.assertEqual(goals_reach(SEVEN, ((0, 0, 0),)), 1)
        self.assertEqual(goals_reach(SEVEN, ((0, 1, 1),)), 1)
        self.assertEqual(goals_reach(SEVEN, tuple(tuples_of(SEVEN))), 0)
        self.assertEqual(goals_reach(FOUR, ((1, 2),)), 1)
        self.assertEqual(goals_reach(BARE, ((0, 0),)), 2)
        self.assertEqual(goals_reach((2, ((),) * 8), ((1,) * 8,)), 8)
        self.assertEqual(goals_reach((2, ((),) * 3), ((0, 0, 0), (1, 1, 1))), 1)

    def test_as_the_document_words_it(self):
        for matrix in SMALL:
            for goals in some_goals(matrix):
                self.assertEqual(goals_reach(matrix, goals), least(matrix, goals))

    def test_the_heap_covers_by_just_that(self):
        for matrix in SMALL:
            for goals in some_goals(matrix):
                told = reach(shape_of(matrix), by_goals(matrix, goals))
                self.assertEqual(goals_reach(matrix, goals), told[0])

    def test_of_many_rows(self):
        self.assertEqual(goals_reach((2, ((),) * 8), tuple(rows((2,) * 8))), 0)
        self.assertEqual(goals_reach((2, ((1,) * 7,)), ((0,),)), 1)
        self.assertEqual(goals_reach((2, ((0, 1),) * 6), ((0,) * 6,)), 3)


class Refusals(unittest.TestCase):
    def test_no_goals_of_anything(self):
        for thing in [thing for thing in anything() if repr(thing) != "((2, 2),)"] + [
            (), [(0, 0)], ((1, 0), (0, 0)), ((0, 0), (0, 0)), ((0,),), ((0, 0, 0),), ((3, 0),), ((0, 3),), ([0, 0],),
            ((True, 0),), ((0, 0), None), (0, 0), "00", ((0, 0), (0, 1), (0,)), ((0, -1),), (Agreeing(),),
        ]:
            with self.subTest(thing=repr(thing)):
                self.assertRaises(NoGoals, lambda: by_goals(FOUR, thing))
                self.assertRaises(NoGoals, lambda: goals_reach(FOUR, thing))

    def test_the_first_refusal_in_errors_is_met(self):
        self.assertRaises(NoMatrix, lambda: by_goals(None, None))
        self.assertRaises(NoMatrix, lambda: goals_reach(None, None))
        self.assertRaises(NoMatrix, lambda: by_goals((2, ()), ()))
        self.assertRaises(NoMatrix, lambda: checks(None, None))

    def test_what_is_handed_in_stays_and_all_is_told_alike(self):
        thing = [2, [[0, 1], [1, 0]]]
        goals = [[0, 1], [0, 0]]
        before = copy.deepcopy((thing, goals))
        self.assertIs(is_matrix(thing), False)
        self.assertRaises(NoMatrix, lambda: by_goals(thing, goals))
        self.assertRaises(NoGoals, lambda: by_goals(FOUR, goals))
        self.assertRaises(NoRow, lambda: checks(FOUR, thing))
        self.assertEqual((thing, goals), before)
        self.assertEqual(by_goals(FOUR, ((0, 1), (2, 2))), by_goals(FOUR, ((0, 1), (2, 2))))


if __name__ == "__main__":
    unittest.main()
