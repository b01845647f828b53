"""Weights of rows, and what they bound from beneath."""

from nearrows.errors import NoWeights
from nearrows.heaps import is_rising
from nearrows.kinds import is_tuple_of, is_whole_from
from nearrows.near import first_greatest, need_often
from nearrows.shapes import apart, need_nearness, need_shape, row_fits, rows_of


def are_weights(shape, thing):
    """Whether this is a weighting of the shape."""
    need_shape(shape)
    return weights_fit(shape, thing)


def top(shape, weights, nearness):
    """The greatest load of a ball, and the first row that has it."""
    need_shape(shape)
    need_nearness(shape, nearness)
    need_weights(shape, weights)
    return top_of(shape, weights, nearness)


def bound(shape, weights, nearness, often):
    """How many rows a heap that covers so often has at least, as the weights tell."""
    need_shape(shape)
    need_nearness(shape, nearness)
    need_often(often)
    need_weights(shape, weights)
    if not weights:
        return 0
    together = sum([weight for row, weight in weights])
    return divided_up(together * often, top_of(shape, weights, nearness)[0])


def even(shape):
    """The weights that are 1 for each row."""
    need_shape(shape)
    return tuple([(row, 1) for row in rows_of(shape)])


def packed(shape, nearness):
    """The rows in order, each that is farther than twice the nearness from all taken ones."""
    need_shape(shape)
    need_nearness(shape, nearness)
    taken = []
    for row in rows_of(shape):
        if all([apart(row, other) > 2 * nearness for other in taken]):
            taken.append(row)
    return tuple(taken)


def need_weights(shape, thing):
    """Refuse what is no weighting of what is known to be a shape."""
    if not weights_fit(shape, thing):
        raise NoWeights("no weights of the shape")


def weights_fit(shape, thing):
    """Whether this is a weighting of what is known to be a shape."""
    if not isinstance(thing, tuple) or not all([weight_fits(shape, pair) for pair in thing]):
        return False
    return is_rising([row for row, weight in thing])


def weight_fits(shape, thing):
    """Whether this is a row of the shape with its weight."""
    if not is_tuple_of(thing, 2):
        return False
    return row_fits(shape, thing[0]) and is_whole_from(thing[1], 1)


def load(weights, row, nearness):
    """The weights of the rows in a row's ball, together."""
    return sum([weight for other, weight in weights if apart(row, other) <= nearness])


def top_of(shape, weights, nearness):
    """The greatest load and the first row with it, of what are known to be weights."""
    rows = rows_of(shape)
    return first_greatest([load(weights, row, nearness) for row in rows], rows)


def divided_up(number, by):
    """The least whole number that is no less than the number divided."""
    return -(-number // by)
