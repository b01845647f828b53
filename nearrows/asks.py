"""What a desk answers of shapes and heaps, and the heaps that it makes."""

from nearrows.answers import left, not_apart
from nearrows.counts import counted, doubled
from nearrows.errors import NoExchange
from nearrows.exchanges import led_heap, led_shape
from nearrows.fewest import fewest
from nearrows.heaptexts import heap_text, read_heap, read_row, row_text
from nearrows.moretexts import pairs_text, read_answers, read_exchange
from nearrows.moves import changes
from nearrows.near import covers, far, nearest, reach
from nearrows.thin import thinned
from nearrows.weights import bound, even, packed


def answer_show(shape, heap):
    """The heap's text."""
    return heap_text(shape, heap)


def answer_far(shape, heap, nearness):
    """The far rows."""
    return heap_text(shape, tuple(far(shape, heap, nearness)))


def answer_covers(shape, heap, nearness, often):
    """Whether the heap covers so often."""
    return "yes" if covers(shape, heap, nearness, often) else "no"


def answer_reach(shape, heap):
    """The least nearness by which the heap covers, and the first row that is so far."""
    nearness, row = reach(shape, heap)
    return f"{nearness} {row_text(shape, row)}"


def answer_near(shape, heap, text):
    """The distance to the nearest row, and that row."""
    found = nearest(shape, heap, read_row(shape, text))
    if found is None:
        return "none"
    gap, row = found
    return f"{gap} {row_text(shape, row)}"


def answer_even(shape, nearness):
    """The bound of even weights for once."""
    return str(bound(shape, even(shape), nearness, 1))


def answer_doubled(shape, nearness):
    """The bound by doubled counts."""
    return str(counted(shape, nearness, doubled(shape, nearness)))


def answer_packed(shape, nearness):
    """How many rows are packed."""
    return str(len(packed(shape, nearness)))


def answer_fewest(shape, nearness):
    """How few rows cover, and a heap of so many."""
    number, heap, paper = fewest(shape, nearness)
    return f"{number} {heap_text(shape, heap)}"


def answer_apart(shape, heap):
    """Whether the heap tells all rows apart, or the first two that it does not."""
    pair = not_apart(shape, heap)
    return "yes" if pair is None else " ".join([row_text(shape, row) for row in pair])


def answer_leave(shape, text):
    """The rows that the answers leave."""
    return heap_text(shape, tuple(left(shape, read_answers(shape, text))))


def answer_moves(shape, one, other):
    """How many changes lead from the one to the other, and the pairs."""
    number, pairs, prices = changes(shape, one, other)
    return f"{number} {pairs_text(shape, pairs)}"


def heap_told(shape, text):
    """The heap that has the text."""
    return read_heap(shape, text)


def heap_thinned(shape, heap, nearness):
    """The heap without needless rows."""
    return thinned(shape, heap, nearness)


def heap_led(shape, heap, text):
    """The heap that an exchange leads to, in the same shape."""
    exchange = read_exchange(shape, text)
    if led_shape(shape, exchange) != shape:
        raise NoExchange("the shape is not led to itself")
    return led_heap(shape, exchange, heap)


ANSWERS = {
    "show": answer_show,
    "far": answer_far,
    "covers": answer_covers,
    "reach": answer_reach,
    "near": answer_near,
    "even": answer_even,
    "doubled": answer_doubled,
    "packed": answer_packed,
    "fewest": answer_fewest,
    "apart": answer_apart,
    "leave": answer_leave,
    "moves": answer_moves,
}
HEAPS = {
    "heap": heap_told,
    "thin": heap_thinned,
    "lead": heap_led,
}


def answered(word, shape, things):
    """The answer to a word that asks, of a shape and what else it is asked of."""
    answer = ANSWERS[word]
    return answer(shape, *things)


def heap_made(word, shape, things):
    """The heap of a word that makes one, of a shape and what else it is made of."""
    make = HEAPS[word]
    return make(shape, *things)
