"""The fewest rows that cover a small shape, with a heap that does and cases that fewer do not."""

from nearrows.balls import Balls
from nearrows.cases import few_is_read
from nearrows.errors import TooMany
from nearrows.like import exchange_between
from nearrows.shapes import count_rows, need_nearness, need_shape

MOST_TRIED_ROWS = 27
FEW = ("few",)


def fewest(shape, nearness):
    """How few rows cover, a heap of so many that does, and a paper that one row less does not."""
    need_shape(shape)
    need_nearness(shape, nearness)
    if count_rows(shape) > MOST_TRIED_ROWS:
        raise TooMany("a shape of more rows than can be tried")
    balls = Balls(shape, nearness)
    # No rows at all never cover: so much the few show by any nearness.
    paper = FEW
    number = 1
    heap, shown = tried(balls, (), number)
    while heap is None:
        paper = shown
        number += 1
        heap, shown = tried(balls, (), number)
    return (number, heap, paper)


def tried(balls, chosen, left):
    """A heap that covers, of the chosen rows and so many more at most, and None; or None and a paper."""
    far = balls.far_from(chosen)
    if not far:
        return (chosen, None)
    if few_is_read(balls, chosen, left):
        return (None, FEW)
    # Where rows are far and none is left the few are read: so one at least is left here.
    return tried_by_row(balls, chosen, left, first_row(balls, far))


def tried_by_row(balls, chosen, left, row):
    """The same, by the rows of the ball of a far row, one of which a heap that covers must have."""
    heaps = []
    papers = []
    for near in balls.near[row]:
        grown = tuple(sorted((*chosen, near)))
        paper = like_paper(balls.shape, heaps, grown)
        if paper is None:
            heap, paper = tried(balls, grown, left - 1)
            if heap is not None:
                return (heap, None)
        heaps.append(grown)
        papers.append(paper)
    return (None, ("row", row, tuple(papers)))


def first_row(balls, rows):
    """The first of the rows, told as bits, of which there is one at least."""
    return [row for row, bit in balls.bits.items() if rows & bit][0]


def like_paper(shape, heaps, heap):
    """What tells, in place of a paper, that the heap is like one of those before it; None where it is not."""
    for place, earlier in enumerate(heaps):
        exchange = exchange_between(shape, heap, earlier)
        if exchange is not None:
            return ("like", place, exchange)
    return None
