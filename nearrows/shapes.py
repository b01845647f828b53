"""Shapes, their rows, and the balls around these."""

from nearrows.errors import NoNearness, NoRow, NoShape
from nearrows.kinds import is_tuple_of, is_whole_within

MOST_SPOTS = 8
FEWEST_SIGNS = 2
MOST_SIGNS = 9
MOST_ROWS = 256


def is_shape(thing):
    """Whether this is a shape."""
    # The length comes first, so that a very long tuple is not walked through.
    if not isinstance(thing, tuple) or not 1 <= len(thing) <= MOST_SPOTS:
        return False
    if not all([is_whole_within(signs, FEWEST_SIGNS, MOST_SIGNS) for signs in thing]):
        return False
    return count_rows(thing) <= MOST_ROWS


def is_row(shape, thing):
    """Whether this is a row of the shape."""
    need_shape(shape)
    return row_fits(shape, thing)


def size(shape):
    """How many rows the shape has."""
    need_shape(shape)
    return count_rows(shape)


def all_rows(shape):
    """All rows of the shape, in order."""
    need_shape(shape)
    return rows_of(shape)


def distance(shape, one, other):
    """At how many spots the two rows differ."""
    need_shape(shape)
    need_row(shape, one)
    need_row(shape, other)
    return apart(one, other)


def ball(shape, row, nearness):
    """All rows no farther from this one than the nearness, in order."""
    need_shape(shape)
    need_row(shape, row)
    need_nearness(shape, nearness)
    return near_rows(shape, row, nearness)


def ball_size(shape, nearness):
    """How many rows each ball by this nearness has."""
    need_shape(shape)
    need_nearness(shape, nearness)
    # All balls have as many rows, so that of the row of noughts tells it.
    return len(near_rows(shape, (0,) * len(shape), nearness))


def need_shape(thing):
    """Refuse what is no shape."""
    if not is_shape(thing):
        raise NoShape("no shape")


def need_row(shape, thing):
    """Refuse what is no row of the shape."""
    if not row_fits(shape, thing):
        raise NoRow("no row of the shape")


def need_nearness(shape, thing):
    """Refuse what is no nearness of the shape."""
    if not nearness_fits(shape, thing):
        raise NoNearness("no nearness of the shape")


# From here on nothing is refused: what is handed in was looked at before.


def row_fits(shape, thing):
    """Whether this is a row of what is known to be a shape."""
    if not is_tuple_of(thing, len(shape)):
        return False
    return all([is_whole_within(sign, 0, signs - 1) for sign, signs in zip(thing, shape)])


def nearness_fits(shape, thing):
    """Whether this is a nearness of what is known to be a shape."""
    return is_whole_within(thing, 0, len(shape))


def spot_fits(shape, thing):
    """Whether this is a spot of what is known to be a shape."""
    return is_whole_within(thing, 0, len(shape) - 1)


def count_rows(shape):
    """The product of the shape's numbers."""
    many = 1
    for signs in shape:
        many *= signs
    return many


def rows_of(shape):
    """All rows of the shape, in order."""
    rows = [()]
    for signs in shape:
        rows = [row + (sign,) for row in rows for sign in range(signs)]
    return rows


def apart(one, other):
    """The distance of two rows."""
    return len([sign for sign, too in zip(one, other) if sign != too])


def near_rows(shape, row, nearness):
    """The ball of a row, in order."""
    return [other for other in rows_of(shape) if apart(row, other) <= nearness]
