"""Heaps of rows that a matrix checks."""

from nearrows.errors import NoGoals, NoMatrix
from nearrows.heaps import heap_fits
from nearrows.kinds import is_some_tuple, is_tuple_of
from nearrows.shapes import is_shape, need_row, row_fits, rows_of


def is_matrix(thing):
    """Whether this is a matrix."""
    if not is_tuple_of(thing, 2):
        return False
    signs, lines = thing
    if not is_some_tuple(lines) or not isinstance(lines[0], tuple):
        return False
    shape = (signs,) * (len(lines) + len(lines[0]))
    return is_shape(shape) and all([row_fits(shape[len(lines):], line) for line in lines])


def checks(matrix, row):
    """For each of the matrix's rows what it makes of the signs of a row."""
    need_matrix(matrix)
    need_row(row_shape(matrix), row)
    return checks_of(matrix, row)


def by_goals(matrix, goals):
    """All rows whose checks are among the goals."""
    need_matrix(matrix)
    need_goals(matrix, goals)
    return tuple([row for row in rows_of(row_shape(matrix)) if checks_of(matrix, row) in goals])


def goals_reach(matrix, goals):
    """The least number of signs other than 0 by which every tuple of checks comes from a goal."""
    need_matrix(matrix)
    need_goals(matrix, goals)
    fewest = fewest_signs(matrix)
    every = rows_of(checks_shape(matrix))
    return max([min([fewest[less(matrix, one, goal)] for goal in goals]) for one in every])


def need_matrix(thing):
    """Refuse what is no matrix."""
    if not is_matrix(thing):
        raise NoMatrix("no matrix")


def need_goals(matrix, thing):
    """Refuse what are no goals of what is known to be a matrix."""
    if not is_some_tuple(thing) or not heap_fits(checks_shape(matrix), thing):
        raise NoGoals("no goals of the matrix")


def row_shape(matrix):
    """The shape of the rows that the matrix checks."""
    signs, lines = matrix
    return (signs,) * (len(lines) + len(lines[0]))


def checks_shape(matrix):
    """The shape of what the matrix's checks are rows of."""
    signs, lines = matrix
    return (signs,) * len(lines)


def checks_of(matrix, row):
    """The checks of a row, of what is known to be a matrix."""
    signs, lines = matrix
    behind = row[len(lines):]
    return tuple([
        (sign + sum([number * other for number, other in zip(line, behind)])) % signs
        for sign, line in zip(row, lines)
    ])


def fewest_signs(matrix):
    """For each tuple of checks the fewest signs other than 0 of a row that has it."""
    fewest = {}
    for row in rows_of(row_shape(matrix)):
        found = checks_of(matrix, row)
        many = len(row) - row.count(0)
        fewest[found] = min(many, fewest.get(found, many))
    return fewest


def less(matrix, one, goal):
    """What is to be added to a goal, spot by spot, that it comes to the one."""
    return tuple([(number - taken) % matrix[0] for number, taken in zip(one, goal)])
