"""Cases: papers that show, row by row, that no heap of so few rows covers."""

from nearrows.balls import Balls, ones
from nearrows.errors import NoNumber
from nearrows.exchanges import exchange_fits, lead_heap, lead_shape
from nearrows.kinds import is_tuple_of, is_whole_from, is_whole_within, is_worded
from nearrows.shapes import need_nearness, need_shape, row_fits


def are_read(shape, nearness, many, thing):
    """Whether this is a paper that no heap of at most so many rows covers."""
    need_shape(shape)
    need_nearness(shape, nearness)
    need_many(many)
    return is_read(Balls(shape, nearness), (), many, thing)


def need_many(thing):
    """Refuse what is no whole number from 0 on."""
    if not is_whole_from(thing, 0):
        raise NoNumber("no whole number from 0 on")


def is_read(balls, chosen, left, paper):
    """Whether the paper shows that the heap chosen does not cover with so many rows left to choose."""
    if not is_worded(paper):
        return False
    match paper:
        case ("few",):
            return few_is_read(balls, chosen, left)
        case ("row", row, papers):
            return row_is_read(balls, chosen, left, row, papers)
    return False


def few_is_read(balls, chosen, left):
    """Whether the balls of the rows left are too small for the far rows."""
    far = balls.far_from(chosen)
    return ones(far) > left * balls.most_within(far)


def row_is_read(balls, chosen, left, row, papers):
    """Whether the papers show it for each row that a far row may be near."""
    if left < 1 or not row_fits(balls.shape, row) or not balls.far_from(chosen) & balls.bits[row]:
        return False
    heaps = [tuple(sorted((*chosen, near))) for near in balls.near[row]]
    if not is_tuple_of(papers, len(heaps)):
        return False
    for place, paper in enumerate(papers):
        if not like_is_read(balls.shape, heaps, place, paper) and not is_read(balls, heaps[place], left - 1, paper):
            return False
    return True


def like_is_read(shape, heaps, place, paper):
    """Whether this tells in place of a paper that the heap at the place is like one before it."""
    if not is_worded(paper) or not is_tuple_of(paper, 3):
        return False
    word, earlier, exchange = paper
    if word != "like" or not is_whole_within(earlier, 0, place - 1) or not exchange_fits(shape, exchange):
        return False
    return lead_shape(shape, exchange) == shape and lead_heap(exchange, heaps[place]) == heaps[earlier]
