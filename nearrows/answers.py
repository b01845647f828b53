"""What guesses tell: the rows that their answers leave, and heaps that tell all rows apart."""

from nearrows.errors import NoAnswers
from nearrows.heaps import need_heap
from nearrows.kinds import is_tuple_of, is_whole_from
from nearrows.shapes import apart, need_shape, row_fits, rows_of


def are_answers(shape, thing):
    """Whether these are answers of the shape."""
    need_shape(shape)
    return answers_fit(shape, thing)


def left(shape, answers):
    """The rows that have just the told distances, in order."""
    need_shape(shape)
    need_answers(shape, answers)
    return [row for row in rows_of(shape) if all([apart(row, other) == gap for other, gap in answers])]


def not_apart(shape, heap):
    """The first two rows that have the same distances to all rows of the heap, or None."""
    need_shape(shape)
    need_heap(shape, heap)
    for alike in rows_by_gaps(shape, heap).values():
        if len(alike) > 1:
            return (alike[0], alike[1])
    return None


def need_answers(shape, thing):
    """Refuse what are no answers of what is known to be a shape."""
    if not answers_fit(shape, thing):
        raise NoAnswers("no answers of the shape")


def answers_fit(shape, thing):
    """Whether these are answers of what is known to be a shape."""
    return isinstance(thing, tuple) and all([answer_fits(shape, answer) for answer in thing])


def answer_fits(shape, thing):
    """Whether this is a row of the shape with a distance."""
    return is_tuple_of(thing, 2) and row_fits(shape, thing[0]) and is_whole_from(thing[1], 0)


def rows_by_gaps(shape, heap):
    """The rows, in order, by their distances to the heap's; those that stand first come first."""
    found = {}
    for row in rows_of(shape):
        gaps = tuple([apart(row, other) for other in heap])
        found.setdefault(gaps, []).append(row)
    return found
