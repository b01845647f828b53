"""Makings: sentences that tell a shape, a nearness, and a heap that covers."""

from nearrows.errors import NoMaking
from nearrows.heaps import heap_fits
from nearrows.kinds import is_whole_within, is_worded
from nearrows.near import far_rows
from nearrows.shapes import FEWEST_SIGNS, MOST_SPOTS, is_shape, nearness_fits, rows_of, spot_fits
from nearrows.weights import divided_up


def is_making(thing):
    """Whether this is a making."""
    return made_of(thing) is not None


def made(making):
    """The shape, the nearness and the heap of a making."""
    found = made_of(making)
    if found is None:
        raise NoMaking("no making")
    return found


def made_size(making):
    """How many rows the making's heap has."""
    shape, nearness, heap = made(making)
    return len(heap)


def made_of(thing):
    """The shape, the nearness and the heap of a making; None of what is none."""
    if not is_worded(thing):
        return None
    # What is within is made by the very call that looks at it, so that it is worked once.
    match thing:
        case ("heap", shape, nearness, heap):
            return from_heap(shape, nearness, heap)
        case ("all", shape):
            return from_all(shape)
        case ("one", shape):
            return from_one(shape)
        case ("alike", signs, spots):
            return from_alike(even_shape(signs, spots))
        case ("check", signs, spots):
            return from_check(even_shape(signs, spots))
        case ("beside", one, other):
            return beside(made_of(one), made_of(other))
        case ("more", inner, signs):
            return beside(made_of(inner), from_all((signs,)))
        case ("blind", inner, signs):
            return beside(made_of(inner), from_one((signs,)))
        case ("left", inner, spot):
            return with_spot_left_out(made_of(inner), spot)
        case ("fewer", inner, spot, signs):
            return with_fewer_signs(made_of(inner), spot, signs)
    return None


def from_heap(shape, nearness, heap):
    """The heap itself, if it covers."""
    if not is_shape(shape) or not nearness_fits(shape, nearness) or not heap_fits(shape, heap):
        return None
    return None if far_rows(shape, heap, nearness) else (shape, nearness, heap)


def from_all(shape):
    """All rows, by nearness 0."""
    return (shape, 0, tuple(rows_of(shape))) if is_shape(shape) else None


def from_one(shape):
    """The row of noughts, near all rows."""
    return (shape, len(shape), ((0,) * len(shape),)) if is_shape(shape) else None


def even_shape(signs, spots):
    """The shape of so many spots, all of so many signs; None where there is none."""
    if not is_whole_within(spots, 1, MOST_SPOTS):
        return None
    shape = (signs,) * spots
    return shape if is_shape(shape) else None


def from_alike(shape):
    """The rows of one sign each: some sign stands at as many spots as an even share comes to."""
    if shape is None:
        return None
    signs, spots = shape[0], len(shape)
    return (shape, spots - divided_up(spots, signs), tuple([(sign,) * spots for sign in range(signs)]))


def from_check(shape):
    """The rows whose signs come together to a multiple of their number."""
    if shape is None:
        return None
    return (shape, 1, tuple([row for row in rows_of(shape) if sum(row) % shape[0] == 0]))


def beside(one, other):
    """Each row of the one with each of the other behind."""
    if one is None or other is None:
        return None
    shape, nearness, heap = one
    shape_too, nearness_too, heap_too = other
    if not is_shape(shape + shape_too):
        return None
    return (shape + shape_too, nearness + nearness_too, tuple([row + too for row in heap for too in heap_too]))


def with_spot_left_out(inner, spot):
    """The rows without the spot, of two spots at least."""
    if inner is None:
        return None
    shape, nearness, heap = inner
    if len(shape) == 1 or not spot_fits(shape, spot):
        return None
    rows = sorted({row[:spot] + row[spot + 1:] for row in heap})
    return (shape[:spot] + shape[spot + 1:], min(nearness, len(shape) - 1), tuple(rows))


def with_fewer_signs(inner, spot, signs):
    """The rows with 0 in place of the signs that the spot no longer has."""
    if inner is None:
        return None
    shape, nearness, heap = inner
    if not spot_fits(shape, spot) or not is_whole_within(signs, FEWEST_SIGNS, shape[spot] - 1):
        return None
    rows = sorted({put_at(row, spot, row[spot] if row[spot] < signs else 0) for row in heap})
    return (put_at(shape, spot, signs), nearness, tuple(rows))


def put_at(numbers, spot, number):
    """The numbers with another one at the spot."""
    return numbers[:spot] + (number,) + numbers[spot + 1:]
