"""Heaps: sorted tuples of unlike rows of a shape."""

from nearrows.errors import NoHeap
from nearrows.shapes import need_shape, row_fits


def is_heap(shape, thing):
    """Whether this is a heap of the shape."""
    need_shape(shape)
    return heap_fits(shape, thing)


def need_heap(shape, thing):
    """Refuse what is no heap of what is known to be a shape."""
    if not heap_fits(shape, thing):
        raise NoHeap("no heap of the shape")


def heap_fits(shape, thing):
    """Whether this is a heap of what is known to be a shape."""
    if not isinstance(thing, tuple):
        return False
    # Only what are rows can be compared without an error of Python's own.
    return all([row_fits(shape, row) for row in thing]) and is_rising(thing)


def is_rising(rows):
    """Whether the rows are sorted and unlike."""
    return all([row < later for row, later in zip(rows, rows[1:])])
