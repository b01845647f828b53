"""Counts: lines of balls put together step by step, and what they bound from beneath."""

from nearrows.errors import NoCounts
from nearrows.kinds import is_some_tuple, is_tuple_of, is_whole_from, is_whole_within
from nearrows.shapes import apart, near_rows, need_nearness, need_shape, row_fits, rows_of
from nearrows.weights import divided_up


def are_counts(shape, thing):
    """Whether these are counts of the shape."""
    need_shape(shape)
    return counts_fit(shape, thing)


def counted(shape, nearness, counts):
    """How many rows a heap that covers has at least, as the counts tell."""
    need_shape(shape)
    need_nearness(shape, nearness)
    need_counts(shape, counts)
    *numbers, together = last_line(shape, nearness, counts)
    return divided_up(together, max(numbers))


def doubled(shape, nearness):
    """Counts that put each ball's lines together by 2, and then all of these by 1."""
    need_shape(shape)
    need_nearness(shape, nearness)
    rows = rows_of(shape)
    halves = [(once_each(near_rows(shape, row, nearness)), 2) for row in rows]
    return (*halves, (once_each(list(range(len(rows)))), 1))


def need_counts(shape, thing):
    """Refuse what are no counts of what is known to be a shape."""
    if not counts_fit(shape, thing):
        raise NoCounts("no counts of the shape")


def counts_fit(shape, thing):
    """Whether these are counts of what is known to be a shape."""
    return is_some_tuple(thing) and all([step_fits(shape, step, place) for place, step in enumerate(thing)])


def step_fits(shape, thing, place):
    """Whether this is a step that may stand at the place."""
    if not is_tuple_of(thing, 2):
        return False
    terms, under = thing
    if not is_some_tuple(terms) or not is_whole_from(under, 1):
        return False
    return all([term_fits(shape, term, place) for term in terms])


def term_fits(shape, thing, place):
    """Whether this is a term of a step at the place."""
    if not is_tuple_of(thing, 2):
        return False
    source, times = thing
    return is_whole_from(times, 1) and (row_fits(shape, source) or is_whole_within(source, 0, place - 1))


def last_line(shape, nearness, counts):
    """The last step's line: a number for each row of the shape, and behind these the sum."""
    rows = rows_of(shape)
    # Rows' lines and steps' lines stand in one dict: a row is never the same as a place.
    lines = {}
    for place, (terms, under) in enumerate(counts):
        for source, times in terms:
            if source not in lines:
                lines[source] = row_line(rows, source, nearness)
        lines[place] = step_line(lines, terms, under)
    return lines[len(counts) - 1]


def row_line(rows, row, nearness):
    """1 for each row of a row's ball, 0 for all else, and the sum 1."""
    return [int(apart(row, other) <= nearness) for other in rows] + [1]


def step_line(lines, terms, under):
    """The sources' lines, so many times, together, divided up."""
    taken = [[times * number for number in lines[source]] for source, times in terms]
    return [divided_up(sum(column), under) for column in zip(*taken)]


def once_each(sources):
    """Terms that take each source once."""
    return tuple([(source, 1) for source in sources])
