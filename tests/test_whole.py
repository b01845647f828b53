"""The part "The whole", and promise 1: each sentence over several modules."""

import itertools
import math
import random
import unittest

from nearrows.answers import left, not_apart
from nearrows.cases import are_read
from nearrows.counts import counted, doubled
from nearrows.desk import Desk
from nearrows.errors import NotCovering
from nearrows.exchanges import back, behind, led_heap, led_row, led_shape
from nearrows.fewest import fewest
from nearrows.follows import factor
from nearrows.heaptexts import heap_text, shape_text
from nearrows.joined import is_normal, joined
from nearrows.like import like
from nearrows.makings import made, made_size
from nearrows.matrices import by_goals, goals_reach
from nearrows.moretexts import answers_text, exchange_text, pairs_text
from nearrows.moves import changes
from nearrows.near import covers, far, nearest, reach
from nearrows.shapes import all_rows, ball, distance, size
from nearrows.tables import Table
from nearrows.thin import is_perfect, is_thin, own_rows, thinned
from nearrows.weights import bound, even, packed, top
from tests.samples import SMALL_SHAPES, apart, exchanges, heaps, rows

HAMMING = (2, ((0, 1, 1, 1), (1, 0, 1, 1), (1, 1, 0, 1)))
MAKINGS = (
    ("all", (3, 2)), ("one", (3, 3, 2)), ("alike", 2, 3), ("alike", 3, 4), ("alike", 2, 7), ("check", 3, 3), ("check", 2, 5),
    ("beside", ("alike", 2, 3), ("check", 3, 2)), ("more", ("alike", 2, 5), 3), ("blind", ("alike", 3, 3), 4),
    ("left", ("check", 4, 3), 1), ("left", ("one", (2, 3)), 0), ("fewer", ("check", 5, 2), 1, 3),
    ("heap", (2,) * 7, 1, by_goals(HAMMING, ((0, 0, 0),))), ("fewer", ("left", ("more", ("alike", 3, 4), 3), 0), 2, 2),
    ("blind", ("more", ("beside", ("all", (2,)), ("alike", 2, 3)), 2), 2),
)


def nearnesses(shape):
    """Each nearness of a shape."""
    return range(len(shape) + 1)


def picked(shape, many, seed):
    """A heap of so many rows, picked the same way each time."""
    return tuple(sorted(random.Random(f"{shape} {many} {seed}").sample(rows(shape), many)))


def weightings(shape):
    """A few weightings of the shape."""
    every = rows(shape)
    return [
        even(shape), tuple((row, 1 + sum(row)) for row in every), tuple((row, 1 + place % 4) for place, row in enumerate(every)),
        tuple((row, 2) for row in every[::3]), (),
    ]


def some_counts(shape, nearness):
    """A few counts of the shape."""
    every = rows(shape)
    first = (tuple((row, 1) for row in every[::2]), 3)
    return [doubled(shape, nearness), (first,), (first, (((0, 2), *((row, 1) for row in every)), 2))]


class Covering(unittest.TestCase):
    def test_a_heap_covers_or_the_far_rows_are_told(self):
        for shape in ((3, 2), (2, 2, 2), (4,)):
            for heap in heaps(shape, 3):
                for nearness in nearnesses(shape):
                    told = far(shape, heap, nearness)
                    covering = covers(shape, heap, nearness, 1)
                    self.assertIs(covering, told == [])
                    near = {row for one in heap for row in ball(shape, one, nearness)}
                    self.assertEqual(told, [row for row in rows(shape) if row not in near])
                    self.check_others(shape, heap, nearness, covering, told)

    def check_others(self, shape, heap, nearness, covering, told):
        """What other modules tell of it agrees."""
        if heap:
            self.assertIs(reach(shape, heap)[0] <= nearness, covering)
        if covering:
            thin = thinned(shape, heap, nearness)
            self.assertTrue(covers(shape, thin, nearness, 1) and is_thin(shape, thin, nearness))
            self.assertEqual(made(("heap", shape, nearness, heap)), (shape, nearness, heap))
        else:
            with self.assertRaises(NotCovering) as caught:
                thinned(shape, heap, nearness)
            self.assertEqual(caught.exception.row, told[0])

    def test_no_heap_that_covers_has_fewer_rows_than_weights_or_counts_bound(self):
        for shape in ((3, 2), (2, 2, 2), (3, 3), (5,)):
            for nearness in nearnesses(shape):
                bounds = [bound(shape, weights, nearness, 1) for weights in weightings(shape)]
                bounds += [counted(shape, nearness, counts) for counts in some_counts(shape, nearness)]
                bounds += [len(packed(shape, nearness))]
                for heap in heaps(shape, max(bounds) - 1):
                    self.assertFalse(covers(shape, heap, nearness, 1))
                self.assertLessEqual(max(bounds), fewest(shape, nearness)[0])

    def test_nor_so_often(self):
        for often in (1, 2, 3):
            for heap in heaps((2, 2, 2), 5):
                if covers((2, 2, 2), heap, 1, often):
                    for weights in weightings((2, 2, 2)):
                        self.assertLessEqual(bound((2, 2, 2), weights, 1, often), len(heap))

    def test_nor_as_few_as_cases_show_to_be_none(self):
        for shape in ((3, 2), (2, 2, 2), (3, 3), (2, 5)):
            for nearness in range(1, len(shape) + 1):
                number, heap, paper = fewest(shape, nearness)
                self.assertTrue(are_read(shape, nearness, number - 1, paper))
                for few in heaps(shape, number - 1):
                    self.assertFalse(covers(shape, few, nearness, 1))

    def test_every_makings_heap_covers_by_the_makings_own_nearness(self):
        for making in MAKINGS:
            shape, nearness, heap = made(making)
            self.assertTrue(covers(shape, heap, nearness, 1))
            self.assertEqual(far(shape, heap, nearness), [])
            self.assertLessEqual(reach(shape, heap)[0], nearness)
            self.assertEqual(made_size(making), len(heap))
            for weights in weightings(shape):
                self.assertLessEqual(bound(shape, weights, nearness, 1), len(heap))

    def test_joined_heaps_and_heaps_by_goals_cover(self):
        ends = ("alike", 2, 3)
        shape, nearness, heap = made(ends)
        self.assertTrue(is_normal(shape, heap, 2, nearness))
        whole = joined(shape, heap, nearness, shape, heap, nearness)
        self.assertTrue(covers(whole[0], whole[2], whole[1], 1))
        for goals in (((0, 0, 0),), ((0, 0, 0), (1, 1, 1)), ((0, 1, 0), (1, 0, 1), (1, 1, 1))):
            rows_by = by_goals(HAMMING, goals)
            self.assertEqual(goals_reach(HAMMING, goals), reach((2,) * 7, rows_by)[0])

    def test_where_a_bound_and_a_heap_meet_the_number_is_the_fewest(self):
        met = 0
        for shape in SMALL_SHAPES:
            for nearness in nearnesses(shape):
                number, heap, paper = fewest(shape, nearness)
                bounds = [bound(shape, even(shape), nearness, 1), counted(shape, nearness, doubled(shape, nearness))]
                if max(bounds) == number:
                    met += 1
                table = Table()
                table.tell_making(("heap", shape, nearness, heap))
                table.tell_reason(shape, nearness, ("cases", number - 1, paper))
                self.assertEqual(table.told_range(shape, nearness), (number, number))
        self.assertGreater(met, 100)

    def test_perfect_heaps_meet_the_bound_of_even_weights(self):
        shape, heap = (2,) * 7, by_goals(HAMMING, ((0, 0, 0),))
        self.assertTrue(is_perfect(shape, heap, 1))
        self.assertEqual(bound(shape, even(shape), 1, 1), len(heap))
        table = Table()
        table.tell_making(("heap", shape, 1, heap))
        table.tell_reason(shape, 1, ("weights", even(shape)))
        self.assertEqual(table.told_range(shape, 1), (16, 16))
        for making in (("alike", 2, 3), ("all", (3, 2)), ("one", (9,)), ("alike", 2, 7)):
            shape, nearness, heap = made(making)
            self.assertTrue(is_perfect(shape, heap, nearness))
            if len(rows(shape)) <= 27:
                self.assertEqual(fewest(shape, nearness)[0], len(heap))


class Exchanged(unittest.TestCase):
    def some(self, shape):
        """Some exchanges of the shape."""
        every = exchanges(shape)
        return every[::max(1, len(every) // 12)]

    def test_exchanges_keep_distances(self):
        for shape in ((3, 2), (2, 2, 2), (2, 3, 2)):
            for exchange in self.some(shape):
                to = led_shape(shape, exchange)
                for one, other in itertools.product(rows(shape), repeat=2):
                    led, led_too = led_row(shape, exchange, one), led_row(shape, exchange, other)
                    self.assertEqual(distance(to, led, led_too), distance(shape, one, other))

    def test_and_so_all_that_is_told_of_heaps(self):
        for shape in ((3, 2), (2, 2, 2), (2, 3, 2)):
            for exchange in self.some(shape):
                to = led_shape(shape, exchange)
                for many in range(1, 6):
                    heap = picked(shape, many, "exchanged")
                    self.check_told(shape, heap, to, led_heap(shape, exchange, heap), exchange)

    def check_told(self, shape, heap, to, led, exchange):
        """What is told of a heap is told, led, of the heap that it is led to."""
        def lead(some):
            return list(led_heap(shape, exchange, tuple(some)))

        self.assertEqual(size(to), size(shape))
        self.assertEqual(reach(to, led)[0], reach(shape, heap)[0])
        self.assertEqual(not_apart(to, led) is None, not_apart(shape, heap) is None)
        for nearness in nearnesses(shape):
            self.assertEqual(far(to, led, nearness), lead(far(shape, heap, nearness)))
            self.assertEqual(covers(to, led, nearness, 2), covers(shape, heap, nearness, 2))
            self.assertEqual(is_thin(to, led, nearness), is_thin(shape, heap, nearness))
            self.assertEqual(is_perfect(to, led, nearness), is_perfect(shape, heap, nearness))
            for row in heap:
                own = own_rows(to, led, led_row(shape, exchange, row), nearness)
                self.assertEqual(own, lead(own_rows(shape, heap, row, nearness)))
            for spot in range(len(shape)):
                place = exchange[0].index(spot)
                self.assertEqual(is_normal(to, led, place, nearness), is_normal(shape, heap, spot, nearness))
            weights, weights_led = tuple((row, 3) for row in heap), tuple((row, 3) for row in led)
            self.assertEqual(top(to, weights_led, nearness)[0], top(shape, weights, nearness)[0])
            self.assertEqual(bound(to, weights_led, nearness, 1), bound(shape, weights, nearness, 1))
        for row in rows(shape):
            self.assertEqual(nearest(to, led, led_row(shape, exchange, row))[0], nearest(shape, heap, row)[0])

    def test_and_of_two_heaps(self):
        for shape in ((3, 2), (2, 2, 2)):
            one, other = picked(shape, 4, "one"), picked(shape, 4, "other")
            for exchange in self.some(shape):
                to = led_shape(shape, exchange)
                led, led_too = led_heap(shape, exchange, one), led_heap(shape, exchange, other)
                self.assertEqual(changes(to, led, led_too)[0], changes(shape, one, other)[0])
                self.assertEqual(like(to, led, led_too) is None, like(shape, one, other) is None)
                same = behind(shape, exchange, back(shape, exchange))
                self.assertEqual(led_heap(shape, same, one), one)

    def test_heaps_that_are_like_cover_alike(self):
        for one, other in itertools.product(heaps((2, 3), 2), repeat=2):
            if like((2, 3), one, other) is not None:
                for nearness in range(3):
                    told = len(far((2, 3), one, nearness)), len(far((2, 3), other, nearness))
                    self.assertEqual(told[0], told[1])

    def test_the_fewest_stay(self):
        for shape in ((2, 3, 4), (2, 2, 2, 3), (4, 5)):
            for order in itertools.permutations(range(len(shape))):
                to = tuple(shape[spot] for spot in order)
                for nearness in nearnesses(shape):
                    self.assertEqual(fewest(to, nearness)[0], fewest(shape, nearness)[0])
                    self.assertEqual(factor(shape, nearness, to, nearness), 1)


class Orders(unittest.TestCase):
    numbers = {(shape, nearness): fewest(shape, nearness)[0] for shape in SMALL_SHAPES for nearness in nearnesses(shape)}

    def test_a_spot_more_or_less(self):
        looked_at = 0
        for (shape, nearness), number in self.numbers.items():
            for signs in range(2, 10):
                more = shape + (signs,)
                if (more, nearness) in self.numbers:
                    looked_at += 1
                    self.assertLessEqual(number, self.numbers[more, nearness])
                    self.assertLessEqual(self.numbers[more, nearness], signs * number)
                    self.assertLessEqual(self.numbers[more, nearness + 1], number)
        self.assertGreater(looked_at, 100)

    def test_a_sign_more_or_less(self):
        looked_at = 0
        for (shape, nearness), number in self.numbers.items():
            for spot in range(len(shape)):
                more = shape[:spot] + (shape[spot] + 1,) + shape[spot + 1:]
                if (more, nearness) in self.numbers:
                    looked_at += 1
                    self.assertLessEqual(number, self.numbers[more, nearness])
        self.assertGreater(looked_at, 100)

    def test_nearness_one_more(self):
        for (shape, nearness), number in self.numbers.items():
            if nearness < len(shape):
                self.assertLessEqual(self.numbers[shape, nearness + 1], number)

    def test_makings_of_a_fewest_heap_keep_them(self):
        for (shape, nearness), number in list(self.numbers.items())[::5]:
            inner = ("heap", shape, nearness, fewest(shape, nearness)[1])
            for signs in (2, 3):
                self.assertEqual(made_size(("more", inner, signs)), signs * number)
                self.assertEqual(made_size(("blind", inner, signs)), number)
            for spot in range(len(shape)):
                if len(shape) > 1:
                    self.assertLessEqual(made_size(("left", inner, spot)), number)
                if shape[spot] > 2:
                    self.assertLessEqual(made_size(("fewer", inner, spot, shape[spot] - 1)), number)

    def test_the_table_never_tells_a_greater_number_from_beneath_than_from_above(self):
        table = Table()
        for making in MAKINGS:
            table.tell_making(making)
        told = list(self.numbers)[::7] + [((2,) * 6, 1), ((2,) * 7, 2), ((4, 4, 4), 1), ((9, 9), 1)]
        for shape, nearness in told:
            for weights in weightings(shape):
                table.tell_reason(shape, nearness, ("weights", weights))
            for counts in some_counts(shape, nearness):
                table.tell_reason(shape, nearness, ("counts", counts))
            if (shape, nearness) in self.numbers:
                number, heap, paper = fewest(shape, nearness)
                table.tell_making(("heap", shape, nearness, heap))
                table.tell_reason(shape, nearness, ("cases", number - 1, paper))
        for shape in [*SMALL_SHAPES, (2,) * 5, (2,) * 6, (2,) * 7, (2,) * 8, (4, 4, 4), (9, 9), (3, 3, 3, 3), (2, 4, 8)]:
            for nearness in nearnesses(shape):
                low, high = table.told_range(shape, nearness)
                self.assertTrue(1 <= low <= high <= math.prod(shape))
                number = self.numbers.get((shape, nearness), low)
                self.assertTrue(low <= number <= high)


class GuessesAndChanges(unittest.TestCase):
    def test_what_guesses_leave_is_just_what_fits_their_answers(self):
        for shape in ((3, 2), (2, 2, 2), (4, 4), (2,) * 6):
            for many in range(5):
                guesses = picked(shape, min(many, size(shape)), "guesses")
                for row in rows(shape)[::3]:
                    answers = tuple((guess, distance(shape, row, guess)) for guess in guesses)
                    fits = [other for other in rows(shape) if all(apart(other, guess) == gap for guess, gap in answers)]
                    self.assertEqual(left(shape, answers), fits)
                    self.assertIn(row, fits)
                    if not_apart(shape, guesses) is None:
                        self.assertEqual(fits, [row])

    def test_the_least_changes_are_paired_and_prices_show_that_there_are_no_fewer(self):
        for shape in ((3, 2), (2,) * 5, (4, 4)):
            for many in range(6):
                one, other = picked(shape, many, "one"), picked(shape, many, "other")
                number, pairs, (prices, prices_too) = changes(shape, one, other)
                self.assertEqual(number, sum(distance(shape, row, too) for row, too in pairs))
                self.assertEqual(number, sum(prices) + sum(prices_too))
                for order in itertools.permutations(range(many)):
                    together = sum(distance(shape, row, other[at]) for row, at in zip(one, order))
                    priced = sum(price + prices_too[at] for price, at in zip(prices, order))
                    self.assertEqual(priced, number)
                    self.assertLessEqual(priced, together)
                for (row, price), (too, price_too) in itertools.product(zip(one, prices), zip(other, prices_too)):
                    self.assertLessEqual(price + price_too, distance(shape, row, too))

    def test_a_desk_tells_what_the_functions_tell(self):
        shape, heap = (3, 3, 2), ((0, 0, 0), (1, 1, 1), (2, 2, 0))
        other = ((0, 1, 0), (1, 2, 1), (2, 0, 1))
        exchange = like(shape, heap, other) or ((1, 0, 2), ((1, 2, 0), (0, 2, 1), (1, 0)))
        answers = tuple((row, 2) for row in heap)
        desk = Desk()
        desk.say(f"shape s {shape_text(shape)}")
        desk.say(f"heap one s {heap_text(shape, heap)}")
        desk.say(f"heap other s {heap_text(shape, other)}")
        self.assertEqual(desk.say(f"leave s {answers_text(shape, answers)}"), heap_text(shape, tuple(left(shape, answers))))
        self.assertEqual(desk.say(f"lead led one {exchange_text(shape, exchange)}"), desk.say("show led"))
        self.assertEqual(desk.say("show led"), heap_text(shape, led_heap(shape, exchange, heap)))
        number, pairs, prices = changes(shape, heap, other)
        self.assertEqual(desk.say("moves one other"), f"{number} {pairs_text(shape, pairs)}")
        desk.say(f"heap all s {heap_text(shape, tuple(all_rows(shape)))}")
        self.assertEqual(desk.say("thin least all 1"), heap_text(shape, thinned(shape, tuple(all_rows(shape)), 1)))
        self.assertEqual(desk.say("covers least 1 1"), "yes")
        self.assertEqual(desk.say("far least 1"), "-")


if __name__ == "__main__":
    unittest.main()
