"""Promise 19, and 2 as far as it touches cases."""

import copy
import itertools
import unittest

from nearrows.cases import are_read
from nearrows.errors import NoNearness, NoNumber, NoShape
from nearrows.like import like
from tests.papers import FEW, near_rows, reads, written
from tests.samples import Agreeing, anything, apart, covers, exchanges, heaps, led_heap, led_shape, odd_things, rows

TURNED = ((0, 1), ((1, 0), (0, 1)))
KEPT = ((0, 1), ((0, 1), (0, 1)))
# By nearness 1 a paper of this shape that no three rows cover has rows within a row's papers.
DEEP = (3, 3, 2)
# Of the shape 2x2 by nearness 1: no heap of one row covers, told by a row of which the ball has three.
BY_ROW = ("row", (0, 0), (FEW, FEW, FEW))


def places_of(paper, places=()):
    """Where the paper and all papers within it stand."""
    yield places
    if paper[0] == "row":
        for at, inner in enumerate(paper[2]):
            yield from places_of(inner, (*places, 2, at))


def part_at(paper, places):
    """What stands behind these places."""
    for at in places:
        paper = paper[at]
    return paper


def changed(paper, places, worth):
    """The paper with another thing at the place that lies behind these places."""
    if not places:
        return worth
    return paper[:places[0]] + (changed(paper[places[0]], places[1:], worth),) + paper[places[0] + 1:]


class ByWords(unittest.TestCase):
    def check_read(self, shape, nearness, many, paper):
        self.assertIs(are_read(shape, nearness, many, paper), True)

    def check_not(self, shape, nearness, many, thing):
        self.assertIs(are_read(shape, nearness, many, thing), False)


class Few(ByWords):
    def test_few(self):
        self.check_read((2, 2), 1, 1, FEW)
        self.check_not((2, 2), 1, 2, FEW)
        self.check_read((2, 2, 2), 1, 1, FEW)
        self.check_not((2, 2, 2), 1, 2, FEW)
        self.check_read((2, 2), 2, 0, FEW)
        self.check_not((2, 2), 2, 1, FEW)

    def test_more_than_so_many_times_a_ball(self):
        for shape in ((2,), (3, 2), (2, 2, 2), (3, 3, 2), (9,)):
            for nearness in range(len(shape) + 1):
                ball = len(near_rows(shape, nearness, rows(shape)[0]))
                for many in range(len(rows(shape)) + 2):
                    self.assertIs(are_read(shape, nearness, many, FEW), len(rows(shape)) > many * ball)

    def test_great_numbers(self):
        self.check_not((2, 2), 1, 10 ** 29, FEW)
        self.check_read((2,) * 8, 1, 28, FEW)
        self.check_not((2,) * 8, 1, 29, FEW)

    def test_only_far_rows_of_a_ball_count(self):
        # Behind (0, 0) is chosen three rows are far by nearness 0 and each ball has at most one of them.
        self.check_read((2, 2), 0, 3, ("row", (0, 0), (FEW,)))
        self.check_not((2, 2), 0, 4, ("row", (0, 0), (FEW,)))
        # By nearness 1 (1, 1) alone is far from (0, 0), (0, 1) and (1, 0) from one each.
        self.check_read((2, 2), 1, 1, BY_ROW)
        self.check_not((2, 2), 1, 2, BY_ROW)

    def test_the_greatest_number_in_a_ball_of_any_row(self):
        # Far from (0, 0) are (1, 1), (1, 2), (2, 1), (2, 2): three of them in one ball, also of rows that are near.
        paper = ("row", (0, 0), (FEW,) * 5)
        self.check_read((3, 3), 1, 2, paper)
        self.check_not((3, 3), 1, 3, paper)

    def test_where_none_is_far(self):
        # In a ball of all rows nothing is far from what is chosen, and none is not more than none.
        self.check_not((2,), 1, 1, ("row", (0,), (FEW, FEW)))
        self.check_not((2,), 1, 2, ("row", (0,), (FEW, FEW)))


class Row(ByWords):
    def test_a_far_row_and_one_left(self):
        self.check_read((2, 2), 1, 1, ("row", (1, 0), (FEW, FEW, FEW)))
        self.check_not((2, 2), 1, 0, BY_ROW)
        self.check_read((2, 2), 1, 0, FEW)

    def test_a_row_that_is_not_far(self):
        inner = ("row", (0, 1), (FEW,))
        self.check_read((2, 2), 0, 2, ("row", (0, 0), (inner,)))
        self.check_not((2, 2), 0, 2, ("row", (0, 1), (inner,)))

    def test_just_the_rows_that_are_far_from_the_chosen_one(self):
        first = (0, 0, 0)
        paper = written(DEEP, 1, 3)
        self.check_read(DEEP, 1, 3, paper)
        self.assertEqual((paper[1], paper[2][0][0]), (first, "row"))
        for row in rows(DEEP):
            inner = tuple(written(DEEP, 1, 1, (first, near)) for near in near_rows(DEEP, 1, row))
            told = are_read(DEEP, 1, 3, changed(paper, (2, 0), ("row", row, inner)))
            self.assertIs(told, apart(first, row) > 1)

    def test_what_is_no_row_of_the_shape(self):
        for thing in [*anything(), (), (2, 0), (0, 2), (0,), (0, 0, 0), [0, 0], "00", (False, 0)]:
            with self.subTest(thing=repr(thing)):
                self.check_not((2, 2), 1, 1, ("row", thing, (FEW, FEW, FEW)))

    def test_a_paper_for_each_row_of_the_ball(self):
        for many in range(7):
            self.assertIs(are_read((2, 2), 1, 1, ("row", (0, 0), (FEW,) * many)), many == 3)

    def test_papers_in_the_order_of_the_ball(self):
        paper = written(DEEP, 1, 3, likes=False)
        self.check_read(DEEP, 1, 3, paper)
        self.check_not(DEEP, 1, 3, (*paper[:2], paper[2][::-1]))
        for order in itertools.permutations(paper[2]):
            other = (*paper[:2], order)
            self.assertIs(are_read(DEEP, 1, 3, other), reads(DEEP, 1, 3, other))

    def test_each_of_the_papers_is_read(self):
        for place in range(3):
            for thing in [*anything(), (), "few", ["few"], ("few", 0), ("Few",), (b"few",), BY_ROW]:
                with self.subTest(thing=repr(thing), place=place):
                    self.check_not((2, 2), 1, 1, changed(BY_ROW, (2, place), thing))

    def test_one_less_is_left(self):
        deep = ("row", (1, 1), (FEW, FEW, FEW))
        self.check_not((2, 2), 1, 1, ("row", (0, 0), (deep, FEW, FEW)))
        chain = FEW
        for row in reversed(rows((3, 3))[:5]):
            chain = ("row", row, (chain,))
        for many in range(12):
            # Five rows are chosen, so that five less are left, and four far rows stay.
            self.assertIs(are_read((3, 3), 0, many, chain), 5 <= many < 9)


class Likes(ByWords):
    def test_like(self):
        # Behind (0, 0): (0, 0), (0, 1) and (1, 0). The second is led to the first by turning the last spot's signs.
        turn = ("like", 0, ((0, 1), ((0, 1), (1, 0))))
        self.check_read((2, 2), 1, 1, ("row", (0, 0), (FEW, turn, FEW)))
        self.check_read((2, 2), 1, 1, ("row", (0, 0), (FEW, turn, ("like", 0, ((0, 1), ((1, 0), (0, 1)))))))

    def test_to_one_that_is_such_too(self):
        turn = ("like", 0, ((0, 1), ((0, 1), (1, 0))))
        swap = ("like", 1, ((1, 0), ((0, 1), (0, 1))))
        self.check_read((2, 2), 1, 1, ("row", (0, 0), (FEW, turn, swap)))
        self.check_not((2, 2), 1, 1, ("row", (0, 0), (turn, FEW, swap)))

    def test_only_an_earlier_one(self):
        for place in range(3):
            near = near_rows((2, 2), 1, (0, 0))
            for j in range(-3, 5):
                # By nearness 1 all heaps of one row are alike, so that there is an exchange to each.
                exchange = like((2, 2), (near[place],), (near[j % 3],))
                told = are_read((2, 2), 1, 1, changed(BY_ROW, (2, place), ("like", j, exchange)))
                self.assertIs(told, 0 <= j < place)

    def test_what_is_no_place(self):
        exchange = like((2, 2), ((0, 1),), ((0, 0),))
        for thing in [*odd_things(), (), (0,), "0"]:
            with self.subTest(thing=repr(thing)):
                self.check_not((2, 2), 1, 1, changed(BY_ROW, (2, 1), ("like", thing, exchange)))

    def test_what_is_no_exchange(self):
        for thing in [
            *anything(), (), list(KEPT), ((0, 1), ((1, 0), [0, 1])), ((0, 0), KEPT[1]), ((0, 1), ((1, 1), (0, 1))),
            ((0, 1, 2), ((0, 1),) * 3), ((0,), ((0, 1),)), ((False, 1), ((1, 0), (0, 1))),
        ]:
            with self.subTest(thing=repr(thing)):
                self.check_not((2, 2), 1, 1, changed(BY_ROW, (2, 2), ("like", 0, thing)))

    def test_only_an_exchange_that_leads_the_heaps_so(self):
        near = near_rows((3, 3), 1, (0, 1))
        paper = ("row", (0, 1), (FEW,) * 5)
        self.check_read((3, 3), 1, 1, paper)
        for exchange in exchanges((3, 3)):
            for place, j in ((1, 0), (4, 0), (4, 3), (3, 1)):
                fits = led_heap(exchange, (near[place],)) == (near[j],)
                told = are_read((3, 3), 1, 1, changed(paper, (2, place), ("like", j, exchange)))
                self.assertIs(told, fits)

    def test_only_an_exchange_that_leads_the_shape_to_itself(self):
        shape = (3, 2)
        near = near_rows(shape, 1, (0, 0))
        paper = ("row", (0, 0), (FEW,) * len(near))
        self.check_read(shape, 1, 1, paper)
        other_way = 0
        for exchange in exchanges(shape):
            if led_heap(exchange, (near[1],)) == (near[0],):
                itself = led_shape(exchange, shape) == shape
                other_way += not itself
                self.assertIs(are_read(shape, 1, 1, changed(paper, (2, 1), ("like", 0, exchange))), itself)
        self.assertGreater(other_way, 0)

    def test_the_chosen_rows_with_it_are_led_as_heaps(self):
        paper = written(DEEP, 1, 3)
        self.check_read(DEEP, 1, 3, paper)
        first = near_rows(DEEP, 1, paper[1])[0]
        near = near_rows(DEEP, 1, paper[2][0][1])
        found = [place for place, inner in enumerate(paper[2][0][2]) if inner[0] == "like"]
        self.assertGreater(len(found), 1)
        for place in found:
            j = paper[2][0][2][place][1]
            for exchange in exchanges(DEEP):
                if led_shape(exchange, DEEP) == DEEP:
                    fits = led_heap(exchange, (first, near[place])) == tuple(sorted((first, near[j])))
                    told = are_read(DEEP, 1, 3, changed(paper, (2, 0, 2, place), ("like", j, exchange)))
                    self.assertIs(told, fits)

    def test_it_stands_only_in_place_of_a_rows_paper(self):
        self.check_not((2, 2), 1, 1, ("like", 0, KEPT))
        self.check_not((2, 2), 1, 0, ("like", 0, KEPT))
        for thing in (("like", 0), ("like", 0, TURNED, 0), ["like", 0, TURNED], ("Like", 0, TURNED), (0, TURNED),
                      (Agreeing(), 0, TURNED), (b"like", 0, TURNED)):
            with self.subTest(thing=repr(thing)):
                self.check_not((2, 2), 1, 1, changed(BY_ROW, (2, 2), thing))
        self.check_read((2, 2), 1, 1, changed(BY_ROW, (2, 2), ("like", 0, TURNED)))


class Whole(ByWords):
    def test_a_paper_is_read_just_where_no_heap_covers(self):
        for shape in ((2,), (3,), (2, 2), (3, 2), (2, 2, 2), (2, 3, 2), (3, 3)):
            for nearness in range(len(shape) + 1):
                fewest = min(len(heap) for heap in heaps(shape, 9) if covers(shape, heap, nearness)) \
                    if len(rows(shape)) <= 9 else {0: 12, 1: 3, 2: 2, 3: 1}[nearness]
                for many in range(fewest):
                    for likes in (True, False) if many < 6 else (False,):
                        paper = written(shape, nearness, many, likes=likes)
                        self.check_read(shape, nearness, many, paper)
                        self.check_not(shape, nearness, fewest, paper)
                self.assertIsNone(written(shape, nearness, fewest, likes=False))

    def test_greater_papers(self):
        paper = written((3, 3, 3), 1, 4)
        self.check_read((3, 3, 3), 1, 4, paper)
        self.check_not((3, 3, 3), 1, 5, paper)
        self.assertIn("like", [part_at(paper, places)[0] for places in places_of(paper)])
        paper = written((2,) * 5, 1, 6)
        self.check_read((2,) * 5, 1, 6, paper)
        self.check_not((2,) * 5, 1, 7, paper)

    def test_parts_left_out_put_twice_or_put_otherwise(self):
        paper = written((3, 3, 3), 1, 4, likes=False)
        self.check_read((3, 3, 3), 1, 4, paper)
        self.check_not((3, 3, 3), 1, 4, (*paper[:2], paper[2][1:]))
        self.check_not((3, 3, 3), 1, 4, (*paper[:2], paper[2] + paper[2][-1:]))
        self.check_not((3, 3, 3), 1, 4, (*paper[:2], paper[2][::-1]))
        self.check_not((3, 3, 3), 1, 4, (*paper[:2], paper[2][:1] * 7))
        self.check_not((3, 3, 3), 1, 4, ("row", (1, 1, 1), paper[2]))
        self.check_not((3, 3, 3), 1, 4, paper[2][0])

    def test_each_part_put_in_the_place_of_each(self):
        for shape, many in ((DEEP, 3), ((4, 4), 3), ((3, 3), 2), ((2, 3, 4), 4)):
            paper = written(shape, 1, many)
            self.check_read(shape, 1, many, paper)
            stand = list(places_of(paper))
            told = []
            for one, other in itertools.product(stand, repeat=2):
                mixed = changed(paper, one, part_at(paper, other))
                told.append(are_read(shape, 1, many, mixed))
                self.assertIs(told[-1], reads(shape, 1, many, mixed))
            self.assertGreater(told.count(False), len(stand))

    def test_of_another_shape_nearness_or_number(self):
        paper = written(DEEP, 1, 3)
        self.check_read(DEEP, 1, 3, paper)
        for shape, nearness, many in (
            ((3, 2, 3), 1, 3), ((2, 3, 3), 1, 3), ((3, 3, 3), 1, 3), (DEEP, 2, 3), (DEEP, 0, 3), ((3, 3), 1, 3),
            (DEEP, 1, 4), (DEEP, 1, 1), (DEEP, 1, 0),
        ):
            with self.subTest(shape=shape, nearness=nearness, many=many):
                self.check_not(shape, nearness, many, paper)

    def test_twelve_deep(self):
        shape = (2,) * 4
        chain = FEW
        for row in reversed(rows(shape)[:11]):
            chain = ("row", row, (chain,))
        self.check_read(shape, 0, 11, chain)
        self.check_read(shape, 0, 15, chain)
        self.check_not(shape, 0, 10, chain)
        self.check_not(shape, 0, 16, chain)
        self.check_not(shape, 0, 15, ("row", rows(shape)[5], (chain,)))
        self.check_read(shape, 0, 15, ("row", rows(shape)[15], (chain,)))

    def test_soon_with_many_rows(self):
        shape = (2,) * 8
        near = near_rows(shape, 1, (0,) * 8)
        papers = [FEW] + [("like", 0, like(shape, (row,), (near[0],))) for row in near[1:]]
        self.check_read(shape, 1, 28, ("row", (0,) * 8, tuple(papers)))
        inner = ("row", (1,) * 8, (FEW,) * 9)
        self.check_read(shape, 1, 28, ("row", (0,) * 8, (inner,) * 9))


class OfAnything(ByWords):
    def test_what_is_no_paper(self):
        for thing in [
            *anything(), (), "few", "row", ["few"], ("few", ()), ("row",), ("row", (0, 0)), ("row", (0, 0), ()),
            ("row", (0, 0), (FEW, FEW, FEW), ()), ["row", (0, 0), (FEW, FEW, FEW)], ("row", (0, 0), [FEW, FEW, FEW]),
            ("row", (0, 0), (["few"], FEW, FEW)), (b"few",), (("few",),), ("FEW",), ("few ",), ("",), (Agreeing(),),
            (Agreeing(), (0, 0), (FEW, FEW, FEW)), ((0, 0), (FEW, FEW, FEW)), {"few": 1}, {"few"},
        ]:
            with self.subTest(thing=repr(thing)):
                self.check_not((2, 2), 1, 1, thing)
                self.check_not((2, 2), 1, 0, thing)
                self.check_not((2, 2), 1, 1, ("row", (0, 0), thing))

    def test_many_that_is_no_number(self):
        for thing in [*anything(), (), -1, "0", (0,), [0]]:
            if isinstance(thing, int) and not isinstance(thing, bool) and thing >= 0:
                continue
            with self.subTest(thing=repr(thing)):
                self.assertRaises(NoNumber, lambda: are_read((2, 2), 1, thing, FEW))

    def test_no_shape_of_anything(self):
        for thing in [*anything(), (), [2, 2]]:
            with self.subTest(thing=repr(thing)):
                self.assertRaises(NoShape, lambda: are_read(thing, 1, 1, FEW))

    def test_no_nearness(self):
        for thing in (-1, 3, True, False, None, "1", (1,), [1], 10 ** 29):
            with self.subTest(thing=thing):
                self.assertRaises(NoNearness, lambda: are_read((2, 2), thing, 1, FEW))

    def test_the_first_refusal_in_errors_is_met(self):
        self.assertRaises(NoShape, lambda: are_read((1,), None, None, None))
        self.assertRaises(NoNearness, lambda: are_read((2, 2), None, None, None))
        self.assertRaises(NoNumber, lambda: are_read((2, 2), 1, None, None))

    def test_what_is_handed_in_stays_and_all_is_told_alike(self):
        thing = ["row", [0, 0], [["few"], ["few"], ["few"]]]
        before = copy.deepcopy(thing)
        self.check_not((2, 2), 1, 1, thing)
        self.check_not((2, 2), 1, 1, tuple(thing))
        self.assertEqual(thing, before)
        paper = written(DEEP, 1, 3)
        before = copy.deepcopy(paper)
        self.check_read(DEEP, 1, 3, paper)
        self.check_read(DEEP, 1, 3, paper)
        self.assertEqual(paper, before)


if __name__ == "__main__":
    unittest.main()
