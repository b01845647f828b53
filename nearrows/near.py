"""Which rows of a shape are near the rows of a heap."""

from nearrows.errors import NoHeap, NoNumber
from nearrows.heaps import need_heap
from nearrows.kinds import is_whole_from
from nearrows.shapes import apart, need_nearness, need_row, need_shape, rows_of


def nearest(shape, heap, row):
    """The least distance and the heap's first row at it, or None of no rows."""
    need_shape(shape)
    need_row(shape, row)
    need_heap(shape, heap)
    return nearest_of(heap, row) if heap else None


def far(shape, heap, nearness):
    """The rows of the shape that no row of the heap is near, in order."""
    need_shape(shape)
    need_nearness(shape, nearness)
    need_heap(shape, heap)
    return far_rows(shape, heap, nearness)


def covers(shape, heap, nearness, often):
    """Whether each row of the shape has so many of the heap's rows near it."""
    need_shape(shape)
    need_nearness(shape, nearness)
    need_often(often)
    need_heap(shape, heap)
    return all([near_number(heap, row, nearness) >= often for row in rows_of(shape)])


def reach(shape, heap):
    """The least nearness by which the heap covers, and the first row that is so far."""
    need_shape(shape)
    need_heap(shape, heap)
    if not heap:
        raise NoHeap("a heap of no rows has no reach")
    rows = rows_of(shape)
    return first_greatest([nearest_of(heap, row)[0] for row in rows], rows)


def need_often(thing):
    """Refuse what is no whole number from 1 on."""
    if not is_whole_from(thing, 1):
        raise NoNumber("no whole number from 1 on")


def nearest_of(heap, row):
    """The least distance and the first row at it, of a heap that has rows."""
    gaps = [apart(row, other) for other in heap]
    least = min(gaps)
    return (least, heap[gaps.index(least)])


def near_number(heap, row, nearness):
    """How many of the heap's rows are near a row."""
    return len([other for other in heap if apart(row, other) <= nearness])


def far_rows(shape, heap, nearness):
    """The far rows, in order, of what is known to be a heap."""
    return [row for row in rows_of(shape) if near_number(heap, row, nearness) == 0]


def first_greatest(numbers, rows):
    """The greatest of the rows' numbers, and the first row that has it."""
    most = max(numbers)
    return (most, rows[numbers.index(most)])
