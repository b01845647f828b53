"""Papers written, and read as the document words it, by another way than the program's."""

import functools

from nearrows.like import like
from tests.samples import apart, led_heap, led_shape, rows

FEW = ("few",)


@functools.cache
def far_rows(shape, nearness, chosen):
    """The rows that are far from the chosen ones."""
    return [row for row in rows(shape) if all(apart(row, other) > nearness for other in chosen)]


@functools.cache
def near_rows(shape, nearness, row):
    """The ball of the row, in order."""
    return [other for other in rows(shape) if apart(row, other) <= nearness]


@functools.cache
def few(shape, nearness, chosen, left):
    """Whether the far rows are too many, as the document words it."""
    far = far_rows(shape, nearness, chosen)
    most = max(len([near for near in near_rows(shape, nearness, row) if near in far]) for row in rows(shape))
    return len(far) > left * most


def written(shape, nearness, left, chosen=(), likes=True):
    """A paper that no heap of the chosen rows and so many more covers; None where one does."""
    if few(shape, nearness, chosen, left):
        return FEW
    far = far_rows(shape, nearness, chosen)
    if not far or not left:
        return None
    papers, done = [], []
    for near in near_rows(shape, nearness, far[0]):
        heap = tuple(sorted((*chosen, near)))
        found = [(place, like(shape, heap, other)) for place, other in enumerate(done)] if likes else []
        found = [("like", place, exchange) for place, exchange in found if exchange is not None]
        # The last one that is alike, so that some lead to a paper that is such a one itself.
        papers.append(found[-1] if found else written(shape, nearness, left - 1, heap, likes))
        done.append(heap)
    return None if None in papers else ("row", far[0], tuple(papers))


def reads(shape, nearness, left, paper, chosen=()):
    """Whether a paper of the told form is read, as the document words it."""
    if paper[0] == "few":
        return few(shape, nearness, chosen, left)
    if paper[0] == "like" or paper[1] not in far_rows(shape, nearness, chosen) or left == 0:
        return False
    near = near_rows(shape, nearness, paper[1])
    if len(paper[2]) != len(near):
        return False
    for place, inner in enumerate(paper[2]):
        if inner[0] == "like":
            j, exchange = inner[1:]
            here, there = (*chosen, near[place]), sorted((*chosen, near[j]))
            told = j < place and led_shape(exchange, shape) == shape and led_heap(exchange, here) == tuple(there)
        else:
            told = reads(shape, nearness, left - 1, inner, (*chosen, near[place]))
        if not told:
            return False
    return True
