"""Promises 13 and 14, and 2 as far as it touches makings."""

import copy
import itertools
import math
import unittest

from nearrows.errors import NoMaking
from nearrows.heaps import is_heap
from nearrows.makings import is_making, made, made_size
from nearrows.shapes import is_shape
from tests.samples import SHAPES, Agreeing, anything, covers, heaps, odd_things, rows

ENDS = ("heap", (2, 2, 2), 1, ((0, 0, 0), (1, 1, 1)))
MIXED = ("heap", (3, 2), 1, ((0, 0), (1, 1), (2, 0)))


def simple_makings():
    """Makings that have no others within."""
    even = [(kind, q, n) for kind in ("alike", "check") for q in range(2, 10) for n in range(1, 9) if q ** n <= 256]
    return even + [(kind, shape) for kind in ("all", "one") for shape in SHAPES] + [ENDS, MIXED]


def small_makings():
    """A few makings of few rows."""
    return [ENDS, MIXED, ("all", (2,)), ("one", (3, 2)), ("alike", 2, 3), ("check", 3, 2), ("all", (2, 4))]


def without(numbers, spot):
    """The numbers but that at the spot."""
    return tuple(number for place, number in enumerate(numbers) if place != spot)


class MakingsCase(unittest.TestCase):
    def check_made(self, making, shape, nearness, heap):
        self.assertIs(is_making(making), True)
        self.assertEqual(made(making), (shape, nearness, heap))
        self.assertIsInstance(made(making), tuple)
        self.assertEqual(made_size(making), len(heap))
        self.assertIs(is_heap(shape, heap), True)
        self.assertIs(covers(shape, heap, nearness), True)
        self.assertLessEqual(nearness, len(shape))

    def check_none(self, thing):
        self.assertIs(is_making(thing), False)
        self.assertRaises(NoMaking, lambda: made(thing))
        self.assertRaises(NoMaking, lambda: made_size(thing))


class Heap(MakingsCase):
    def test_each_heap_that_covers(self):
        for shape in ((3, 2), (2, 2, 2)):
            for heap in heaps(shape, 3):
                for nearness in range(len(shape) + 1):
                    if covers(shape, heap, nearness):
                        self.check_made(("heap", shape, nearness, heap), shape, nearness, heap)
                    else:
                        self.check_none(("heap", shape, nearness, heap))

    def test_no_rows_cover_nothing(self):
        self.check_none(("heap", (2, 2), 2, ()))

    def test_of_many_rows(self):
        self.check_made(("heap", (2,) * 8, 0, tuple(rows((2,) * 8))), (2,) * 8, 0, tuple(rows((2,) * 8)))
        self.check_none(("heap", (2,) * 8, 0, tuple(rows((2,) * 8))[1:]))

    def test_only_of_a_shape_a_nearness_and_a_heap(self):
        for thing in anything() + [()]:
            with self.subTest(thing=repr(thing)):
                self.check_none(("heap", thing, 2, ((0, 0),)))
                self.check_none(("heap", (3, 2), 2, thing))
                if thing != 2 or isinstance(thing, Agreeing):
                    self.check_none(("heap", (3, 2), thing, ((0, 0),)))
        self.check_none(("heap", (3, 2), 3, ((0, 0),)))
        self.check_none(("heap", (3, 2), 2, [(0, 0)]))
        self.check_none(("heap", (3, 2), 2, ((1, 0), (0, 0))))
        self.check_none(("heap", (3, 2), 2, ((0, 0), (0, 0))))
        self.check_none(("heap", [3, 2], 2, ((0, 0),)))


class AllAndOne(MakingsCase):
    def test_all_and_one(self):
        for shape in SHAPES + [(2,) * 8]:
            self.check_made(("all", shape), shape, 0, tuple(rows(shape)))
            self.check_made(("one", shape), shape, len(shape), ((0,) * len(shape),))

    def test_only_of_a_shape(self):
        for thing in anything() + [(), [2, 2], (2,) * 9, (10,), (1,), (4, 4, 4, 5)]:
            with self.subTest(thing=repr(thing)):
                self.check_none(("all", thing))
                self.check_none(("one", thing))


class AlikeAndCheck(MakingsCase):
    def test_alike(self):
        self.check_made(("alike", 2, 3), (2, 2, 2), 1, ((0, 0, 0), (1, 1, 1)))
        self.check_made(("alike", 3, 3), (3, 3, 3), 2, ((0, 0, 0), (1, 1, 1), (2, 2, 2)))
        self.check_made(("alike", 3, 4), (3,) * 4, 2, ((0,) * 4, (1,) * 4, (2,) * 4))
        self.check_made(("alike", 9, 1), (9,), 0, tuple((sign,) for sign in range(9)))
        self.check_made(("alike", 2, 8), (2,) * 8, 4, ((0,) * 8, (1,) * 8))

    def test_check(self):
        self.check_made(("check", 2, 3), (2, 2, 2), 1, ((0, 0, 0), (0, 1, 1), (1, 0, 1), (1, 1, 0)))
        self.check_made(("check", 3, 2), (3, 3), 1, ((0, 0), (1, 2), (2, 1)))
        self.check_made(("check", 9, 1), (9,), 1, ((0,),))

    def test_each_number_of_signs_and_spots(self):
        for q, n in itertools.product(range(12), range(12)):
            with self.subTest(q=q, n=n):
                if 2 <= q <= 9 and 1 <= n <= 8 and q ** n <= 256:
                    shape = (q,) * n
                    nearness = n - math.ceil(n / q)
                    self.check_made(("alike", q, n), shape, nearness, tuple((sign,) * n for sign in range(q)))
                    heap = tuple(row for row in rows(shape) if sum(row) in range(0, 99, q))
                    self.check_made(("check", q, n), shape, 1, heap)
                else:
                    self.check_none(("alike", q, n))
                    self.check_none(("check", q, n))

    def test_only_of_numbers(self):
        for thing in odd_things() + [(2,), (), [2], "2", b"2", -2]:
            with self.subTest(thing=repr(thing)):
                for kind in ("alike", "check"):
                    self.check_none((kind, thing, 2))
                    self.check_none((kind, 2, thing))


class Beside(MakingsCase):
    def test_beside(self):
        self.check_made(
            ("beside", ("alike", 2, 3), ("one", (3,))), (2, 2, 2, 3), 2, ((0, 0, 0, 0), (1, 1, 1, 0)))
        self.check_made(
            ("beside", ("all", (2,)), MIXED), (2, 3, 2), 1,
            ((0, 0, 0), (0, 1, 1), (0, 2, 0), (1, 0, 0), (1, 1, 1), (1, 2, 0)))

    def test_of_each_two(self):
        for one, other in itertools.product(small_makings(), repeat=2):
            shape, nearness, heap = made(one)
            shape_too, nearness_too, heap_too = made(other)
            if is_shape(shape + shape_too):
                together = tuple(sorted(row + too for row, too in itertools.product(heap, heap_too)))
                self.check_made(("beside", one, other), shape + shape_too, nearness + nearness_too, together)
            else:
                self.check_none(("beside", one, other))

    def test_more_rows_or_spots_than_a_shape_has(self):
        self.check_made(("beside", ("one", (2,) * 4), ("one", (2,) * 4)), (2,) * 8, 8, ((0,) * 8,))
        self.check_none(("beside", ("one", (2,) * 4), ("one", (2,) * 5)))
        self.check_none(("beside", ("one", (9, 9)), ("one", (4,))))
        self.check_made(("beside", ("one", (9, 9)), ("one", (3,))), (9, 9, 3), 3, ((0, 0, 0),))


class MoreAndBlind(MakingsCase):
    def test_more_and_blind(self):
        self.check_made(
            ("more", ENDS, 3), (2, 2, 2, 3), 1,
            ((0, 0, 0, 0), (0, 0, 0, 1), (0, 0, 0, 2), (1, 1, 1, 0), (1, 1, 1, 1), (1, 1, 1, 2)))
        self.check_made(("blind", ENDS, 3), (2, 2, 2, 3), 2, ((0, 0, 0, 0), (1, 1, 1, 0)))

    def test_of_each_number_of_signs(self):
        for inner in small_makings() + [("one", (2,) * 7), ("one", (2,) * 8), ("one", (9, 9))]:
            shape, nearness, heap = made(inner)
            for q in range(12):
                if 2 <= q <= 9 and is_shape(shape + (q,)):
                    rows_more = tuple(row + (sign,) for row in heap for sign in range(q))
                    self.check_made(("more", inner, q), shape + (q,), nearness, rows_more)
                    rows_blind = tuple(row + (0,) for row in heap)
                    self.check_made(("blind", inner, q), shape + (q,), nearness + 1, rows_blind)
                else:
                    self.check_none(("more", inner, q))
                    self.check_none(("blind", inner, q))

    def test_only_of_a_number(self):
        for thing in odd_things() + [(2,), (), [2]]:
            with self.subTest(thing=repr(thing)):
                self.check_none(("more", ENDS, thing))
                self.check_none(("blind", ENDS, thing))


class Left(MakingsCase):
    def test_left(self):
        self.check_made(("left", ENDS, 1), (2, 2), 1, ((0, 0), (1, 1)))
        self.check_made(("left", MIXED, 0), (2,), 1, ((0,), (1,)))
        self.check_made(("left", MIXED, 1), (3,), 1, ((0,), (1,), (2,)))

    def test_the_nearness_of_as_many_spots_as_there_are(self):
        self.check_made(("left", ("one", (3, 2)), 0), (2,), 1, ((0,),))
        self.check_made(("left", ("one", (3, 2, 4)), 1), (3, 4), 2, ((0, 0),))
        self.check_made(("left", ("heap", (3, 2), 2, ((0, 1),)), 0), (2,), 1, ((1,),))

    def test_of_each_spot(self):
        for inner in small_makings():
            shape, nearness, heap = made(inner)
            for k in range(-2, 10):
                if k in range(len(shape)) and len(shape) > 1:
                    kept = without(shape, k)
                    left = tuple(sorted({without(row, k) for row in heap}))
                    self.check_made(("left", inner, k), kept, min(nearness, len(kept)), left)
                else:
                    self.check_none(("left", inner, k))

    def test_of_one_spot_there_is_none(self):
        self.check_none(("left", ("all", (3,)), 0))
        self.check_none(("left", ("left", ("all", (3, 2)), 0), 0))

    def test_only_of_a_spot(self):
        for thing in odd_things() + [(0,), (), [0], 3]:
            with self.subTest(thing=repr(thing)):
                self.check_none(("left", ENDS, thing))


class Fewer(MakingsCase):
    def test_fewer(self):
        self.check_made(("fewer", MIXED, 0, 2), (2, 2), 1, ((0, 0), (1, 1)))
        self.check_made(("fewer", ("all", (4,)), 0, 3), (3,), 0, ((0,), (1,), (2,)))
        self.check_made(("fewer", ("heap", (4,), 1, ((3,),)), 0, 2), (2,), 1, ((0,),))
        self.check_made(("fewer", ("check", 3, 2), 1, 2), (3, 2), 1, ((0, 0), (1, 0), (2, 1)))

    def test_of_each_spot_and_number(self):
        for inner in small_makings() + [("all", (9, 4)), ("check", 4, 3)]:
            shape, nearness, heap = made(inner)
            for k, q in itertools.product(range(-2, 9), range(11)):
                if k in range(len(shape)) and 2 <= q < shape[k]:
                    told = list(shape)
                    told[k] = q
                    left = {tuple(0 if at == k and x >= q else x for at, x in enumerate(row)) for row in heap}
                    self.check_made(("fewer", inner, k, q), tuple(told), nearness, tuple(sorted(left)))
                else:
                    self.check_none(("fewer", inner, k, q))

    def test_only_fewer_than_the_spot_has(self):
        self.check_made(("fewer", ("all", (9,)), 0, 8), (8,), 0, tuple((sign,) for sign in range(8)))
        self.check_none(("fewer", ("all", (9,)), 0, 9))
        self.check_none(("fewer", ("all", (9,)), 0, 1))
        self.check_none(("fewer", ("all", (2,)), 0, 2))

    def test_only_of_a_spot_and_a_number(self):
        for thing in odd_things() + [(0,), (), [0], 9]:
            with self.subTest(thing=repr(thing)):
                self.check_none(("fewer", ("all", (4, 4)), thing, 2))
                self.check_none(("fewer", ("all", (4, 4)), 0, thing))


class Within(MakingsCase):
    def test_each_kind_within_each(self):
        inner = [
            (kind, making, *more) for making in small_makings()
            for kind, more in (("more", (2,)), ("blind", (3,)), ("left", (0,)), ("fewer", (0, 2)))
        ]
        for making in [making for making in inner if is_making(making)]:
            shape, nearness, heap = made(making)
            self.check_made(("beside", making, ("one", (2,))), shape + (2,), nearness + 1,
                            tuple(row + (0,) for row in heap))
            self.check_made(("left", ("more", making, 2), len(shape)), shape, nearness, heap)

    def test_twelve_deep(self):
        making = ("heap", (2,) * 7, 1, made(("check", 2, 7))[2])
        shape, nearness, heap = made(making)
        for depth in range(4):
            making = ("left", ("more", making, 2), 7)
        self.check_made(making, shape, nearness, heap)
        for depth in range(2):
            making = ("blind", ("left", making, 6), 2)
        self.check_made(making, shape, 3, tuple(rows((2,) * 6 + (1,))))

    def test_twelve_deep_with_two_in_each(self):
        making = ("all", (2,))
        for depth in range(6):
            making = ("left", ("beside", making, making), 0)
        self.check_made(making, (2,), 0, ((0,), (1,)))

    def test_made_once_though_it_stands_deep(self):
        # Were what is within looked at and then made, each of these would take twice as long as the one within it.
        making = ("heap", (2,) * 8, 0, tuple(rows((2,) * 8)))
        for depth in range(6):
            making = ("more", ("left", making, 0), 2)
        self.check_made(making, (2,) * 8, 0, tuple(rows((2,) * 8)))

    def test_what_holds_what_is_none_is_none(self):
        bad = ("heap", (2, 2), 1, ())
        for thing in anything() + [(), bad, list(ENDS), ("left", bad, 0)]:
            with self.subTest(thing=repr(thing)):
                for making in (
                    ("beside", thing, ENDS), ("beside", ENDS, thing), ("more", thing, 2), ("blind", thing, 2),
                    ("left", thing, 0), ("fewer", thing, 0, 2),
                ):
                    self.check_none(making)
                    self.check_none(("beside", ("all", (2,)), ("more", making, 2)))

    def test_every_heap_that_is_made_covers(self):
        for making in simple_makings():
            shape, nearness, heap = made(making)
            self.check_made(making, shape, nearness, heap)


class NoMakings(MakingsCase):
    def test_of_anything(self):
        for thing in ("all", "heap", ["all", (2,)], ("all", [2]), {"all": (2,)}, ("all", (2,), ())):
            self.check_none(thing)
        for thing in anything() + [()]:
            with self.subTest(thing=repr(thing)):
                self.check_none(thing)
                self.check_none((thing, (2, 2)))
                self.check_none((thing, 2, 2))
                self.check_none((thing, ENDS, 0))
                self.check_none((thing, (2, 2), 2, ((0, 0),)))

    def test_of_other_lengths_and_words(self):
        for making in [*simple_makings(), ("beside", ENDS, MIXED), ("more", ENDS, 2), ("fewer", MIXED, 0, 2)]:
            self.check_none(making[:-1])
            self.check_none(making[1:])
            self.check_none((*making, 2))
            self.check_none((making[0].upper(), *making[1:]))
            self.check_none((making[0] + " ", *making[1:]))
            self.check_none((making[0].encode(), *making[1:]))
            self.check_none(list(making))
            self.check_none((making,))

    def test_what_is_handed_in_stays_and_all_is_told_alike(self):
        thing = ["beside", ["all", [2, 2]], ["one", [3]]]
        before = copy.deepcopy(thing)
        self.check_none(thing)
        self.check_none(tuple(thing))
        self.assertEqual(thing, before)
        making = ("left", ("fewer", ("beside", MIXED, ENDS), 0, 2), 3)
        before = copy.deepcopy(making)
        self.assertEqual(made(making), made(making))
        self.assertEqual(making, before)


if __name__ == "__main__":
    unittest.main()
