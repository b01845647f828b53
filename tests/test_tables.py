"""Promise 22, and 2 as far as it touches tables."""

import copy
import itertools
import math
import unittest

from nearrows.counts import counted, doubled
from nearrows.errors import NoMaking, NoNearness, NoReason, NoShape
from nearrows.fewest import fewest
from nearrows.follows import factor
from nearrows.makings import made
from nearrows.tables import Table
from nearrows.weights import bound, even
from tests.papers import FEW, written
from tests.samples import SMALL_SHAPES, Agreeing, anything, odd_things, rows

MAKINGS = (
    ("alike", 2, 3), ("check", 3, 2), ("all", (4,)), ("one", (3, 2, 2)), ("beside", ("alike", 2, 3), ("alike", 2, 3)),
    ("heap", (3, 3, 3), 1, fewest((3, 3, 3), 1)[1]), ("more", ("alike", 2, 3), 3), ("blind", ("check", 2, 4), 4),
    ("left", ("check", 3, 3), 1), ("fewer", ("check", 4, 2), 0, 2),
)
REASONS = (
    ((2, 2, 2), 1, ("weights", even((2, 2, 2)))),
    ((2,) * 6, 1, ("weights", even((2,) * 6))),
    ((3, 3, 3), 1, ("cases", 4, fewest((3, 3, 3), 1)[2])),
    ((2,) * 4, 1, ("counts", doubled((2,) * 4, 1))),
    ((3, 2), 0, ("cases", 3, FEW)),
    ((4, 4), 1, ("weights", tuple(((sign, sign), 5) for sign in range(4)))),
    ((2, 2), 1, ("weights", ())),
)
ASKED = (
    (2,), (4,), (9,), (3, 2), (2, 2), (3, 3), (4, 4), (2, 2, 2), (3, 3, 3), (3, 2, 2), (2, 2, 2, 3), (2,) * 4, (2,) * 6,
    (2,) * 8, (4, 4, 4, 4), (2, 3, 4),
)


def reason_bound(shape, nearness, reason):
    """The bound of a reason, as the document words it."""
    if reason[0] == "weights":
        return bound(shape, reason[1], nearness, 1)
    return counted(shape, nearness, reason[1]) if reason[0] == "counts" else reason[1] + 1


def expected(makings, reasons, shape, nearness):
    """The range, as the document words it."""
    highs = [math.prod(shape)]
    for making in makings:
        one, t, heap = made(making)
        times = factor(one, t, shape, nearness)
        highs += [] if times is None else [times * len(heap)]
    lows = [1]
    for other, u, reason in reasons:
        times = factor(shape, nearness, other, u)
        lows += [] if times is None else [math.ceil(reason_bound(other, u, reason) / times)]
    return max(lows), min(highs)


def table_of(makings, reasons):
    """A table that was told all these."""
    table = Table()
    for making in makings:
        table.tell_making(making)
    for shape, nearness, reason in reasons:
        table.tell_reason(shape, nearness, reason)
    return table


def ranges(table):
    """What the table tells of many shapes by each nearness."""
    return [table.told_range(shape, nearness) for shape in ASKED for nearness in range(len(shape) + 1)]


class Ranges(unittest.TestCase):
    def check_range(self, table, shape, nearness, low, high):
        told = table.told_range(shape, nearness)
        self.assertIs(type(told), tuple)
        self.assertEqual(told, (low, high))
        self.assertEqual([type(number) for number in told], [int, int])

    def check_all(self, makings, reasons):
        table = table_of(makings, reasons)
        for shape in ASKED:
            for nearness in range(len(shape) + 1):
                self.check_range(table, shape, nearness, *expected(makings, reasons, shape, nearness))

    def test_nothing_told(self):
        table = Table()
        for shape in [*SMALL_SHAPES, *ASKED]:
            for nearness in range(len(shape) + 1):
                self.check_range(table, shape, nearness, 1, math.prod(shape))

    def test_telling_answers_nothing(self):
        table = Table()
        for making in MAKINGS:
            self.assertIsNone(table.tell_making(making))
        for reason in REASONS:
            self.assertIsNone(table.tell_reason(*reason))

    def test_each_making_alone(self):
        for making in MAKINGS:
            self.check_all([making], [])

    def test_each_reason_alone(self):
        for reason in REASONS:
            self.check_all([], [reason])

    def test_makings_and_reasons_together(self):
        self.check_all(MAKINGS, REASONS)
        self.check_all(MAKINGS[::2], REASONS[1::2])

    def test_in_whichever_order(self):
        told = ranges(table_of(MAKINGS, REASONS))
        self.assertEqual(ranges(table_of(MAKINGS[::-1], REASONS[::-1])), told)
        self.assertEqual(ranges(table_of(MAKINGS * 2, REASONS[::-1] + REASONS)), told)
        mixed = Table()
        for place in (3, 1, 0, 2, 6, 5, 4):
            mixed.tell_reason(*REASONS[place])
            mixed.tell_making(MAKINGS[place])
        for making in MAKINGS[7:]:
            mixed.tell_making(making)
        self.assertEqual(ranges(mixed), told)

    def test_a_worse_one_changes_nothing(self):
        table = Table()
        table.tell_making(("alike", 2, 3))
        table.tell_reason((2, 2, 2), 1, ("cases", 1, FEW))
        self.check_range(table, (2, 2, 2), 1, 2, 2)
        table.tell_making(("heap", (2, 2, 2), 1, tuple(rows((2, 2, 2)))))
        table.tell_reason((2, 2, 2), 1, ("cases", 0, FEW))
        table.tell_reason((2, 2, 2), 1, ("weights", ()))
        self.check_range(table, (2, 2, 2), 1, 2, 2)

    def test_a_better_one_of_the_same_is_kept(self):
        table = Table()
        table.tell_making(("heap", (2, 2, 2), 1, tuple(rows((2, 2, 2)))))
        table.tell_reason((2, 2, 2), 1, ("cases", 0, FEW))
        self.check_range(table, (2, 2, 2), 1, 1, 8)
        table.tell_making(("alike", 2, 3))
        table.tell_reason((2, 2, 2), 1, ("cases", 1, FEW))
        self.check_range(table, (2, 2, 2), 1, 2, 2)

    def test_each_sort_of_reason(self):
        table = Table()
        table.tell_reason((3, 3, 3), 1, ("weights", even((3, 3, 3))))
        self.check_range(table, (3, 3, 3), 1, 4, 27)
        table.tell_reason((3, 3, 3), 1, ("cases", 4, written((3, 3, 3), 1, 4)))
        self.check_range(table, (3, 3, 3), 1, 5, 27)
        table = Table()
        table.tell_reason((2,) * 8, 1, ("weights", even((2,) * 8)))
        self.check_range(table, (2,) * 8, 1, 29, 256)
        table.tell_reason((2,) * 8, 1, ("counts", doubled((2,) * 8, 1)))
        self.check_range(table, (2,) * 8, 1, 32, 256)

    def test_the_bound_is_for_once(self):
        table = Table()
        table.tell_reason((3, 2), 1, ("weights", even((3, 2))))
        self.check_range(table, (3, 2), 1, 2, 6)

    def test_high_of_shapes_to_which_it_follows(self):
        table = table_of([("alike", 2, 3)], [])
        self.check_range(table, (2, 2, 2, 2), 1, 1, 4)
        self.check_range(table, (2, 2, 2, 2), 2, 1, 2)
        self.check_range(table, (2, 3, 2, 2), 1, 1, 6)
        self.check_range(table, (2, 2), 1, 1, 2)
        self.check_range(table, (2, 2, 2), 0, 1, 8)
        self.check_range(table, (3, 3, 3), 1, 1, 27)
        self.check_range(table, (3, 3, 3), 2, 1, 18)
        self.check_range(table, (2,) * 8, 1, 1, 64)

    def test_low_of_shapes_from_which_it_follows(self):
        # From three spots of two signs the fourth is free, so that half the bound for four is one for three.
        table = table_of([], [((2,) * 4, 1, ("cases", 3, written((2,) * 4, 1, 3)))])
        self.check_range(table, (2,) * 4, 1, 4, 16)
        self.check_range(table, (2,) * 3, 1, 2, 8)
        self.check_range(table, (2, 2), 1, 1, 4)
        self.check_range(table, (2, 2, 2), 0, 4, 8)
        self.check_range(table, (2,) * 5, 1, 4, 32)
        self.check_range(table, (2, 3, 3, 2), 1, 4, 36)
        self.check_range(table, (2,) * 4, 2, 1, 16)

    def test_low_goes_up_to_the_next_whole_number(self):
        table = table_of([], [((3, 3, 3), 1, ("cases", 4, fewest((3, 3, 3), 1)[2]))])
        self.check_range(table, (3, 3), 1, 2, 9)
        self.check_range(table, (2, 3, 3), 1, 2, 18)
        self.check_range(table, (3, 3), 0, 5, 9)

    def test_never_greater_from_beneath_than_from_above(self):
        table = Table()
        shapes = [(2,), (5,), (3, 2), (2, 2, 2), (3, 3, 3), (2, 2, 2, 3), (4, 6)]
        for shape in shapes:
            for nearness in range(len(shape) + 1):
                number, heap, paper = fewest(shape, nearness)
                table.tell_making(("heap", shape, nearness, heap))
                table.tell_reason(shape, nearness, ("cases", number - 1, paper))
                table.tell_reason(shape, nearness, ("counts", doubled(shape, nearness)))
                self.check_range(table, shape, nearness, number, number)
        for shape in SMALL_SHAPES:
            for nearness in range(len(shape) + 1):
                low, high = table.told_range(shape, nearness)
                number = fewest(shape, nearness)[0]
                self.assertTrue(1 <= low <= number <= high <= math.prod(shape))

    def test_two_tables_keep_each_its_own(self):
        one, other = Table(), Table()
        one.tell_making(("alike", 2, 3))
        other.tell_reason((2, 2, 2), 1, ("cases", 1, FEW))
        self.check_range(one, (2, 2, 2), 1, 1, 2)
        self.check_range(other, (2, 2, 2), 1, 2, 8)
        self.assertEqual(ranges(Table()), ranges(table_of([], [])))


class NoReasons(unittest.TestCase):
    def check_no_reason(self, thing, shape=(2, 2), nearness=1):
        table = table_of(MAKINGS[:1], REASONS[:1])
        before = table.told_range(shape, nearness), table.told_range((2, 2, 2), 1)
        with self.assertRaises(NoReason):
            table.tell_reason(shape, nearness, thing)
        self.assertEqual((table.told_range(shape, nearness), table.told_range((2, 2, 2), 1)), before)

    def test_of_anything(self):
        for thing in [*anything(), (), "weights", ["weights", ()], ("weights",), ("weights", (), ()), ("Weights", ()),
                      (b"weights", ()), (Agreeing(), ()), ("counts",), ("cases",), ("cases", 1), ("cases", FEW),
                      ("cases", FEW, 1), ["cases", 1, FEW], ("cases", 1, FEW, 0), FEW, ("even", even((2, 2))),
                      even((2, 2)), doubled((2, 2), 1), {"cases": 1}]:
            with self.subTest(thing=repr(thing)):
                self.check_no_reason(thing)

    def test_no_weights(self):
        for thing in [*anything(), list(even((2, 2))), even((2, 2))[::-1], even((2, 3)), (((0, 0), 0),),
                      (((0, 0), True),), ([(0, 0), 1],), (((0, 0), 1), ((0, 0), 1)), (((0, 0), -1),)]:
            with self.subTest(thing=repr(thing)):
                self.check_no_reason(("weights", thing))

    def test_no_counts(self):
        fine = ((((0, 0), 1),), 1)
        for thing in [*anything(), (), list(doubled((2, 2), 1)), doubled((2, 3), 1), (fine, (((1, 1),), 1)),
                      ((((0, 0), 1),),), (((), 1),), (((((0, 0), 0),), 1),), ((((0, 0), 1),), 0)]:
            with self.subTest(thing=repr(thing)):
                self.check_no_reason(("counts", thing))

    def test_no_number_of_cases(self):
        for thing in [*odd_things(), (), (0,), -1, "1"]:
            if type(thing) is not int or thing < 0:
                with self.subTest(thing=repr(thing)):
                    self.check_no_reason(("cases", thing, FEW))

    def test_cases_that_are_not_read(self):
        for thing in [*anything(), (), "few", ["few"], ("few", 0), ("like", 0, ((0, 1), ((0, 1), (0, 1))))]:
            with self.subTest(thing=repr(thing)):
                self.check_no_reason(("cases", 1, thing))
        self.check_no_reason(("cases", 2, FEW))
        self.check_no_reason(("cases", 10 ** 29, FEW))
        self.check_no_reason(("cases", 5, fewest((3, 3, 3), 1)[2]), (3, 3, 3), 1)
        self.check_no_reason(("cases", 4, fewest((3, 3, 3), 1)[2]), (3, 3, 3), 2)
        self.check_no_reason(("cases", 3, fewest((2,) * 4, 1)[2]), (2, 2, 2), 1)

    def test_a_reason_of_another_shape(self):
        self.check_no_reason(("weights", even((2, 2, 2))))
        self.check_no_reason(("counts", doubled((2, 2, 2), 1)))


class OtherRefusals(unittest.TestCase):
    def test_no_making(self):
        table = table_of(MAKINGS, REASONS)
        before = ranges(table)
        for thing in [*anything(), (), ["all", (2, 2)], ("all", [2, 2]), ("all", (2,) * 9), ("heap", (2, 2), 1, ()),
                      ("more", ("all", (2,) * 8), 2), ("alike", 2, 9), ("check", 2), ("heap", (2, 2), 0, ((0, 0),))]:
            with self.subTest(thing=repr(thing)):
                self.assertRaises(NoMaking, lambda: table.tell_making(thing))
        self.assertEqual(ranges(table), before)

    def test_no_shape_of_anything(self):
        table = Table()
        for thing in [*anything(), ()]:
            with self.subTest(thing=repr(thing)):
                self.assertRaises(NoShape, lambda: table.told_range(thing, 1))
                self.assertRaises(NoShape, lambda: table.tell_reason(thing, 1, ("cases", 0, FEW)))

    def test_no_nearness_of_anything(self):
        table = Table()
        for thing in [*anything(), (), -1, 3, True, False, None, "1", (1,), [1]]:
            if type(thing) is int and 0 <= thing <= 2:
                continue
            with self.subTest(thing=repr(thing)):
                self.assertRaises(NoNearness, lambda: table.told_range((2, 2), thing))
                self.assertRaises(NoNearness, lambda: table.tell_reason((2, 2), thing, ("cases", 0, FEW)))

    def test_the_first_refusal_in_errors_is_met(self):
        table = Table()
        for shape, nearness, reason in itertools.product([(2, 2), (1,)], [1, 3], [("cases", 1, FEW), ("cases", 2, FEW)]):
            if shape == (1,):
                self.assertRaises(NoShape, lambda: table.tell_reason(shape, nearness, reason))
                self.assertRaises(NoShape, lambda: table.told_range(shape, nearness))
            elif nearness == 3:
                self.assertRaises(NoNearness, lambda: table.tell_reason(shape, nearness, reason))
                self.assertRaises(NoNearness, lambda: table.told_range(shape, nearness))
            elif reason[1] == 2:
                self.assertRaises(NoReason, lambda: table.tell_reason(shape, nearness, reason))
            else:
                self.assertIsNone(table.tell_reason(shape, nearness, reason))
        self.assertRaises(NoShape, lambda: table.tell_reason((1,), None, None))
        self.assertRaises(NoNearness, lambda: table.tell_reason((2, 2), None, None))
        self.assertRaises(NoReason, lambda: table.tell_reason((2, 2), 1, None))


class Alike(unittest.TestCase):
    def test_what_is_handed_in_stays(self):
        before = copy.deepcopy((MAKINGS, REASONS))
        table = table_of(MAKINGS, REASONS)
        ranges(table)
        self.assertEqual((MAKINGS, REASONS), before)
        things = [["weights", [[(0, 0), 1]]], ["cases", 1, ["few"]]]
        kept = copy.deepcopy(things)
        for thing in things:
            self.assertRaises(NoReason, lambda: table.tell_reason((2, 2), 1, thing))
            self.assertRaises(NoReason, lambda: table.tell_reason((2, 2), 1, tuple(thing)))
        self.assertEqual(things, kept)

    def test_asked_again_all_is_told_alike(self):
        table = table_of(MAKINGS, REASONS)
        self.assertEqual(ranges(table), ranges(table))


if __name__ == "__main__":
    unittest.main()
