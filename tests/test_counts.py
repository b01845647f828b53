"""Promise 12, and 2 as far as it touches counts."""

import copy
import fractions
import itertools
import math
import unittest

from nearrows.counts import are_counts, counted, doubled
from nearrows.errors import NoCounts, NoNearness, NoShape
from tests.samples import SHAPES, anything, apart, covers, heaps, rows

ONE_STEP = (((((0, 0), 1), ((1, 1), 2)), 2),)
SEVERAL = (
    ((((0, 0), 1), ((1, 0), 1), ((2, 0), 1)), 2),
    ((((0, 1), 3), (0, 1), ((0, 1), 1)), 2),
    (((1, 2), (0, 5), (1, 1)), 3),
)


def line(shape, nearness, counts, source, known):
    """A source's line as a dict of rows, with the sum under None, as the document words it."""
    if isinstance(source, tuple):
        return {None: 1, **{row: 1 if apart(row, source) <= nearness else 0 for row in rows(shape)}}
    if source not in known:
        terms, under = counts[source]
        parts = [(line(shape, nearness, counts, inner, known), times) for inner, times in terms]
        known[source] = {
            key: math.ceil(fractions.Fraction(sum(part[key] * times for part, times in parts), under))
            for key in [None, *rows(shape)]
        }
    return known[source]


def bound(shape, nearness, counts):
    """The bound by counts, as the document words it."""
    last = line(shape, nearness, counts, len(counts) - 1, {})
    return math.ceil(fractions.Fraction(last[None], max(last[row] for row in rows(shape))))


def some_counts(shape):
    """Counts of one step and of several, of many sources, times and unders."""
    steps = itertools.cycle([1, 2, 3, 5])
    told = []
    for heap in heaps(shape, 3)[1:]:
        first = (tuple((row, next(steps)) for row in heap), next(steps))
        second = ((*first[0][:1], (0, next(steps)), (0, 1)), next(steps))
        told += [(first,), (first, second), (first, second, (((0, 2), (1, next(steps))), next(steps)))]
    return told


class AreCounts(unittest.TestCase):
    def test_counts(self):
        for counts in some_counts((3, 2)) + [ONE_STEP, SEVERAL, (((((2, 1), 10 ** 29),), 10 ** 29),)]:
            self.assertIs(are_counts((3, 2), counts), True)

    def test_a_source_more_than_once(self):
        self.assertIs(are_counts((3, 2), (((((0, 0), 1), ((0, 0), 1)), 1),)), True)
        self.assertIs(are_counts((3, 2), (((((0, 0), 1),), 1), (((0, 2), (0, 2)), 1))), True)

    def test_no_step_and_no_term(self):
        self.assertIs(are_counts((3, 2), ()), False)
        self.assertIs(are_counts((3, 2), (((), 1),)), False)
        self.assertIs(are_counts((3, 2), (((((0, 0), 1),), 1), ((), 1))), False)

    def test_only_places_of_earlier_steps(self):
        first = ((((0, 0), 1),), 1)
        for place in range(-3, 6):
            with self.subTest(place=place):
                self.assertIs(are_counts((3, 2), ((((place, 1),), 1),)), False)
                self.assertIs(are_counts((3, 2), (first, (((place, 1),), 1))), place == 0)
                self.assertIs(are_counts((3, 2), (first, first, (((place, 1),), 1))), place in (0, 1))
                self.assertIs(are_counts((3, 2), (first, (((place, 1),), 1), first)), place == 0)

    def test_only_sources_times_and_unders(self):
        first = ((((0, 0), 1),), 1)
        for thing in anything() + [(), 0, -1, "1", b"1", (1,), [1]]:
            if isinstance(thing, int) and not isinstance(thing, bool) and thing >= 1:
                continue
            with self.subTest(thing=repr(thing)):
                self.assertIs(are_counts((3, 2), (first, ((((0, 0), 1), (0, thing)), 1))), False)
                self.assertIs(are_counts((3, 2), (first, ((((0, 0), 1), (0, 1)), thing))), False)
                if thing != 0 or thing is False:
                    self.assertIs(are_counts((3, 2), (first, ((((0, 0), 1), (thing, 1)), 1))), False)

    def test_only_rows_of_the_shape(self):
        for row in ((0,), (0, 0, 0), (3, 0), (0, 2), (True, 0), (0, False), [0, 0], "00", ()):
            with self.subTest(row=row):
                self.assertIs(are_counts((3, 2), ((((row, 1),), 1),)), False)

    def test_a_list_in_the_place_of_a_tuple(self):
        first = ((((0, 0), 1),), 1)
        for thing in ([first], ([*first],), (([((0, 0), 1)], 1),), ((([(0, 0), 1],), 1),), (((([0, 0], 1),), 1),)):
            with self.subTest(thing=thing):
                self.assertIs(are_counts((3, 2), thing), False)

    def test_steps_and_terms_of_other_lengths(self):
        for thing in (
            ((((0, 0), 1),),), (((((0, 0), 1),), 1, 1),), (((((0, 0),),), 1),), (((((0, 0), 1, 1),), 1),), ((),),
            ((((0, 0), 1),), 1), ((((0, 0), 1), 1),), (((), 1),), ((((),), 1),),
        ):
            with self.subTest(thing=thing):
                self.assertIs(are_counts((3, 2), thing), False)

    def test_no_counts_of_anything(self):
        first = ((((0, 0), 1),), 1)
        for thing in anything() + [()]:
            with self.subTest(thing=repr(thing)):
                for counts in (thing, (thing,), (first, thing), (((thing,), 1),), ((thing, 1),)):
                    self.assertIs(are_counts((3, 2), counts), False)
                    self.assertRaises(NoCounts, lambda: counted((3, 2), 1, counts))


class Counted(unittest.TestCase):
    def test_of_one_row(self):
        for shape in SHAPES:
            for nearness in range(len(shape) + 1):
                self.assertEqual(counted(shape, nearness, ((((rows(shape)[-1], 1),), 1),)), 1)

    def test_the_numbers_and_the_sum_go_up(self):
        # By nearness 0 the line of both rows is 1 at each of them, and the sum is 2.
        both = (((0,), 1), ((1,), 1))
        self.assertEqual(counted((3,), 0, ((both, 1),)), 2)
        # 1 by 2 goes up to 1, 2 by 2 is 1.
        self.assertEqual(counted((3,), 0, ((both, 2),)), 1)
        # 3 by 2 goes up to 2, which the numbers, 1 each by 2, do not reach.
        self.assertEqual(counted((3,), 0, ((both + (((2,), 1),), 2),)), 2)
        # The sum is 2, the greatest number 3: the bound goes up to 1.
        self.assertEqual(counted((3,), 0, (((((0,), 3),), 1),)), 1)
        self.assertEqual(counted((3,), 0, (((((0,), 3), ((1,), 2)), 1),)), 2)

    def test_sources_that_are_steps(self):
        steps = (((((0,), 1), ((1,), 1), ((2,), 1)), 2), (((0, 3), ((0,), 1)), 2))
        # The first line is 1, 1, 1 and 2; three times that and the row's are 4, 3, 3 and 7; by 2 it is 2, 2, 2 and 4.
        self.assertEqual(counted((3,), 0, steps), 2)
        self.assertEqual(counted((3,), 0, steps[:1]), 2)
        self.assertEqual(counted((3,), 0, steps + (((((1,), 1), (1, 10)), 7),)), 2)

    def test_only_the_last_line_counts(self):
        steps = (((((0,), 1), ((1,), 1), ((2,), 1)), 1), ((((0,), 1),), 1))
        self.assertEqual(counted((3,), 0, steps[:1]), 3)
        self.assertEqual(counted((3,), 0, steps), 1)

    def test_a_source_more_than_once(self):
        self.assertEqual(
            counted((3, 2), 1, (((((0, 0), 1), ((1, 1), 1), ((0, 0), 1)), 3),)),
            counted((3, 2), 1, (((((0, 0), 2), ((1, 1), 1)), 3),)),
        )

    def test_as_the_document_words_it(self):
        for shape in ((3, 2), (2, 2, 2)):
            for nearness in range(len(shape) + 1):
                for counts in some_counts(shape):
                    self.assertEqual(counted(shape, nearness, counts), bound(shape, nearness, counts))

    def test_no_heap_that_covers_has_fewer_rows(self):
        for shape in ((3, 2), (2, 2, 2)):
            for nearness in range(len(shape) + 1):
                fewest = min(len(heap) for heap in heaps(shape, 8) if covers(shape, heap, nearness))
                for counts in [*some_counts(shape), doubled(shape, nearness)]:
                    self.assertLessEqual(counted(shape, nearness, counts), fewest)

    def test_great_numbers(self):
        great = 10 ** 29
        counts = (((((0, 0), great), ((1, 1), great - 1)), great), (((0, great), ((0, 0), 1)), great - 1))
        self.assertEqual(counted((3, 2), 0, counts), bound((3, 2), 0, counts))

    def test_three_hundred_steps_each_worked_once(self):
        every = tuple((row, 1) for row in rows((3, 2)))
        steps = ((every, 1),) + tuple((((place, 1), (place, 1)), 1 + place % 2) for place in range(299))
        self.assertIs(are_counts((3, 2), steps), True)
        self.assertEqual(counted((3, 2), 0, steps), 6)
        self.assertEqual(counted((3, 2), 1, steps), bound((3, 2), 1, steps))

    def test_three_hundred_terms(self):
        terms = tuple((row, 1 + place) for place, row in enumerate(rows((3, 2)) * 50))
        self.assertEqual(counted((3, 2), 1, ((terms, 7),)), bound((3, 2), 1, ((terms, 7),)))


class Doubled(unittest.TestCase):
    def test_doubled(self):
        self.assertEqual(doubled((2,), 0), (((((0,), 1),), 2), ((((1,), 1),), 2), (((0, 1), (1, 1)), 1)))
        both = (((0,), 1), ((1,), 1))
        self.assertEqual(doubled((2,), 1), ((both, 2), (both, 2), (((0, 1), (1, 1)), 1)))

    def test_step_by_step_in_order(self):
        for shape in SHAPES:
            for nearness in range(len(shape) + 1):
                told = doubled(shape, nearness)
                self.assertIsInstance(told, tuple)
                self.assertEqual(len(told), len(rows(shape)) + 1)
                for row, step in zip(rows(shape), told):
                    near = tuple((other, 1) for other in rows(shape) if apart(row, other) <= nearness)
                    self.assertEqual(step, (near, 2))
                self.assertEqual(told[-1], (tuple((place, 1) for place in range(len(rows(shape)))), 1))
                self.assertIs(are_counts(shape, told), True)

    def test_the_bound_by_them(self):
        for shape in [(3, 2), (2, 2, 2), (3, 3, 2)]:
            for nearness in range(len(shape) + 1):
                told = doubled(shape, nearness)
                self.assertEqual(counted(shape, nearness, told), bound(shape, nearness, told))
        self.assertEqual(counted((2,) * 4, 1, doubled((2,) * 4, 1)), 4)
        self.assertEqual(counted((3,) * 3, 1, doubled((3,) * 3, 1)), 4)

    def test_of_many_rows(self):
        self.assertEqual(counted((2,) * 8, 8, doubled((2,) * 8, 8)), 1)
        self.assertEqual(counted((2,) * 8, 0, doubled((2,) * 8, 0)), 256)
        self.assertEqual(counted((2,) * 7, 1, doubled((2,) * 7, 1)), 16)


class Refusals(unittest.TestCase):
    def test_no_shape_of_anything(self):
        for thing in anything() + [(), [3, 2]]:
            with self.subTest(thing=repr(thing)):
                self.assertRaises(NoShape, lambda: are_counts(thing, ONE_STEP))
                self.assertRaises(NoShape, lambda: counted(thing, 1, ONE_STEP))
                self.assertRaises(NoShape, lambda: doubled(thing, 1))

    def test_no_nearness(self):
        for thing in (-1, 3, True, False, None, "1", (1,), [1], 10 ** 29):
            with self.subTest(thing=thing):
                self.assertRaises(NoNearness, lambda: counted((3, 2), thing, ONE_STEP))
                self.assertRaises(NoNearness, lambda: doubled((3, 2), thing))

    def test_the_first_refusal_in_errors_is_met(self):
        self.assertRaises(NoShape, lambda: are_counts((1,), None))
        self.assertRaises(NoShape, lambda: counted((1,), None, None))
        self.assertRaises(NoNearness, lambda: counted((3, 2), None, None))
        self.assertRaises(NoCounts, lambda: counted((3, 2), 1, None))
        self.assertRaises(NoShape, lambda: doubled((1,), None))

    def test_what_is_handed_in_stays_and_all_is_told_alike(self):
        thing = [[[[(0, 0), 1]], 1]]
        before = copy.deepcopy(thing)
        self.assertIs(are_counts((3, 2), thing), False)
        self.assertRaises(NoCounts, lambda: counted((3, 2), 1, thing))
        self.assertEqual(thing, before)
        several = copy.deepcopy(SEVERAL)
        self.assertEqual(counted((3, 2), 1, SEVERAL), counted((3, 2), 1, SEVERAL))
        self.assertEqual(SEVERAL, several)
        self.assertEqual(doubled((3, 2), 1), doubled((3, 2), 1))


if __name__ == "__main__":
    unittest.main()
