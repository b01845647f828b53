"""Rows that only one row of a heap is near, and heaps without needless rows."""

from nearrows.errors import NoRow, NotCovering
from nearrows.heaps import need_heap
from nearrows.near import far_rows, near_number
from nearrows.shapes import near_rows, need_nearness, need_row, need_shape, rows_of


def own_rows(shape, heap, row, nearness):
    """The rows in this one's ball that are in no other's of the heap, in order."""
    need_shape(shape)
    need_row(shape, row)
    need_nearness(shape, nearness)
    need_heap(shape, heap)
    # The document puts this refusal behind that of what is no heap.
    if row not in heap:
        raise NoRow("no row of the heap")
    return [other for other in near_rows(shape, row, nearness) if near_number(heap, other, nearness) == 1]


def is_thin(shape, heap, nearness):
    """Whether the heap covers and each of its rows has own rows."""
    need_shape(shape)
    need_nearness(shape, nearness)
    need_heap(shape, heap)
    numbers = near_numbers(shape, heap, nearness)
    if min(numbers.values()) == 0:
        return False
    return all([has_own(numbers, near_rows(shape, row, nearness)) for row in heap])


def thinned(shape, heap, nearness):
    """The heap after its rows without own rows are left out, always the first one."""
    need_shape(shape)
    need_nearness(shape, nearness)
    need_heap(shape, heap)
    missed = far_rows(shape, heap, nearness)
    if missed:
        raise NotCovering(missed[0])
    return tuple(kept_rows(shape, heap, nearness))


def is_perfect(shape, heap, nearness):
    """Whether each row of the shape is in just one ball of the heap's rows."""
    need_shape(shape)
    need_nearness(shape, nearness)
    need_heap(shape, heap)
    return all([number == 1 for number in near_numbers(shape, heap, nearness).values()])


def near_numbers(shape, heap, nearness):
    """How many of the heap's rows are near each row of the shape."""
    return {row: near_number(heap, row, nearness) for row in rows_of(shape)}


def has_own(numbers, near):
    """Whether one of these rows, a ball's of the heap, is in no other ball."""
    return any([numbers[row] == 1 for row in near])


def kept_rows(shape, heap, nearness):
    """The rows of a heap that covers which are not left out."""
    numbers = near_numbers(shape, heap, nearness)
    kept = []
    # A row that has own rows keeps them whatever is left out, so once through is enough.
    for row in heap:
        near = near_rows(shape, row, nearness)
        if has_own(numbers, near):
            kept.append(row)
        else:
            for other in near:
                numbers[other] -= 1
    return kept
