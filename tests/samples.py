"""Things that several tests hand in, and what is told of them by another way than the program's."""

import itertools


class Odd:
    """An object of a kind that no module knows."""


class Agreeing:
    """An object that says of everything that it is the same."""

    def __eq__(self, other):
        return True

    def __hash__(self):
        return hash("heap")


def odd_things():
    """Things of many kinds that are no tuple, no number and no text that is told."""
    inside_itself = []
    inside_itself.append(inside_itself)
    return [
        None, True, False, -1, -(10 ** 29), 10 ** 29, "", "x", "two", "-0", "\n", " ", b"", b"22", b"-",
        [], [2, 2], [(0, 0)], {}, {2: 2}, {(0, 0): 1}, set(), {2}, frozenset([2]), range(2), iter([2]),
        Odd(), Odd, Agreeing(), len, lambda: 2, NotImplemented, ..., inside_itself, ValueError("x"), bytearray(b"2"),
    ]


def odd_tuples():
    """Tuples that are no shape, and no row, no heap but () and no weights but () of a shape of two spots."""
    return [(thing,) for thing in odd_things()] + [(thing, 0) for thing in odd_things()] + [
        (2, 2, [2]), ((2, 2),), (((0, 0),),), ("2", "2"), ((), ()), ((0, 0), 1, 1), (-1, 2), (0, -1), (10, 10),
        (0, 10), (10 ** 29, 2), (2,) * 9, (0,) * 9, (0,) * 3, (None, None),
    ]


def anything():
    """What is neither a shape, nor a row, a heap or weights of a shape of two spots; () is left to each test."""
    return odd_things() + odd_tuples() + [0, 1, 2, 9, 256]


def rows(shape):
    """All rows of the shape, in order."""
    return list(itertools.product(*[range(signs) for signs in shape]))


def apart(one, other):
    """The distance of two rows."""
    return sum(map(lambda pair: pair[0] != pair[1], zip(one, other)))


def heaps(shape, most):
    """Each heap of the shape of at most so many rows."""
    return [heap for many in range(most + 1) for heap in itertools.combinations(rows(shape), many)]


def covers(shape, heap, nearness):
    """Whether each row of the shape is near one of the heap's."""
    return all(any(apart(row, other) <= nearness for other in heap) for row in rows(shape))


SHAPES = [(2,), (9,), (3, 2), (2, 3), (3, 3, 2), (2, 4, 3), (2, 2, 2, 2), (9, 9), (4, 4, 4)]


def exchanges(shape):
    """Each exchange of the shape."""
    return [
        (order, signs)
        for order in itertools.permutations(range(len(shape)))
        for signs in itertools.product(*[itertools.permutations(range(shape[spot])) for spot in order])
    ]


def led(exchange, row):
    """The row that an exchange leads to, as the document words it."""
    order, signs = exchange
    return tuple(signs[k][row[order[k]]] for k in range(len(order)))


def led_shape(exchange, shape):
    """The shape that an exchange leads to."""
    return tuple(shape[spot] for spot in exchange[0])


def led_heap(exchange, heap):
    """The heap that an exchange leads to."""
    return tuple(sorted(led(exchange, row) for row in heap))


def small_shapes(most):
    """Each shape of at most so many rows."""
    found = []
    last = [()]
    while last:
        last = [shape + (signs,) for shape in last for signs in range(2, 10)]
        last = [shape for shape in last if len(shape) <= 8 and len(rows(shape)) <= most]
        found += last
    return found


SMALL_SHAPES = small_shapes(27)
