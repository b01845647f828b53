"""Heaps split at a spot, and two heaps joined in one."""

from nearrows.errors import NoNumber, NotNormal
from nearrows.heaps import need_heap
from nearrows.near import nearest_of
from nearrows.shapes import need_nearness, need_shape, rows_of, spot_fits


def split(shape, heap, spot):
    """For each sign of the spot the heap's rows with that sign there."""
    need_shape(shape)
    need_spot(shape, spot)
    need_heap(shape, heap)
    return parts_of(shape, heap, spot)


def is_normal(shape, heap, spot, nearness):
    """Whether each row is, by an even share, near the rows of each sign at the spot."""
    need_shape(shape)
    need_nearness(shape, nearness)
    need_spot(shape, spot)
    need_heap(shape, heap)
    return normal_at(shape, heap, spot, nearness)


def joined(one, heap, nearness, other, heap_too, nearness_too):
    """The shape, the nearness and the heap in which the one's last spot is the other's first."""
    need_shape(one)
    need_shape(other)
    shape = one + other[1:]
    need_shape(shape)
    need_nearness(one, nearness)
    need_nearness(other, nearness_too)
    need_heap(one, heap)
    need_heap(other, heap_too)
    if one[-1] != other[0]:
        raise NotNormal("the spots are not of as many signs")
    if not normal_at(one, heap, len(one) - 1, nearness) or not normal_at(other, heap_too, 0, nearness_too):
        raise NotNormal("a heap is not normal at the spot")
    rows = [row + too[1:] for row in heap for too in heap_too if row[-1] == too[0]]
    return (shape, min(nearness + nearness_too, len(shape)), tuple(rows))


def need_spot(shape, thing):
    """Refuse what is no spot of what is known to be a shape."""
    if not spot_fits(shape, thing):
        raise NoNumber("no spot of the shape")


def parts_of(shape, heap, spot):
    """The heap split at a spot."""
    return [tuple([row for row in heap if row[spot] == sign]) for sign in range(shape[spot])]


def normal_at(shape, heap, spot, nearness):
    """Whether what is known to be a heap is normal at the spot."""
    parts = parts_of(shape, heap, spot)
    if not all(parts):
        return False
    limit = shape[spot] * (nearness + 1)
    return all([sum([nearest_of(part, row)[0] for part in parts]) < limit for row in rows_of(shape)])
