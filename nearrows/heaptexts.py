"""Texts of shapes, rows and heaps, written and read."""

from nearrows.errors import NoText
from nearrows.heaps import heap_fits, need_heap
from nearrows.shapes import is_shape, need_row, need_shape, row_fits

FIGURES = "0123456789"
NO_ROWS = "-"


def shape_text(shape):
    """The shape's numbers with x between."""
    need_shape(shape)
    return "x".join([FIGURES[signs] for signs in shape])


def row_text(shape, row):
    """The row's signs as figures, one behind the other."""
    need_shape(shape)
    need_row(shape, row)
    return figures_of(row)


def heap_text(shape, heap):
    """The texts of the heap's rows with a blank between."""
    need_shape(shape)
    need_heap(shape, heap)
    if not heap:
        return NO_ROWS
    return " ".join([figures_of(row) for row in heap])


def read_shape(text):
    """The shape that has this text."""
    need_text(text)
    shape = tuple([number_of(part) for part in text.split("x")])
    if not is_shape(shape):
        raise NoText("no text of a shape")
    return shape


def read_row(shape, text):
    """The row of the shape that has this text."""
    need_shape(shape)
    need_text(text)
    row = numbers_of(text)
    if not row_fits(shape, row):
        raise NoText("no text of a row of the shape")
    return row


def read_heap(shape, text):
    """The heap of the shape that has this text."""
    need_shape(shape)
    need_text(text)
    if text == NO_ROWS:
        return ()
    heap = tuple([numbers_of(part) for part in text.split(" ")])
    if not heap_fits(shape, heap):
        raise NoText("no text of a heap of the shape")
    return heap


def need_text(thing):
    """Refuse what is no text at all."""
    if not isinstance(thing, str):
        raise NoText("no text")


def figures_of(row):
    """The row's signs as figures."""
    return "".join([FIGURES[sign] for sign in row])


def numbers_of(text):
    """What each sign of a text is as a figure; -1, which no row has, where it is none."""
    return tuple([FIGURES.find(sign) for sign in text])


def number_of(text):
    """What a text of one figure is; -1, which no shape has, where it is none."""
    return FIGURES.find(text) if len(text) == 1 else -1
