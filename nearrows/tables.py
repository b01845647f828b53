"""Tables of what is known: how few rows cover at least and at most."""

from nearrows.cases import are_read
from nearrows.counts import counted, counts_fit
from nearrows.errors import NoReason
from nearrows.follows import factor
from nearrows.kinds import is_whole_from, is_worded
from nearrows.makings import made
from nearrows.shapes import need_nearness, need_shape, size
from nearrows.weights import bound, divided_up, weights_fit


class Table:
    """What was told of shapes and nearnesses, of each only the best number from above and from beneath."""

    def __init__(self):
        self.sizes = {}
        self.bounds = {}

    def tell_making(self, making):
        """Keep how many rows the making's heap has."""
        shape, nearness, heap = made(making)
        told = (shape, nearness)
        self.sizes[told] = min(len(heap), self.sizes.get(told, len(heap)))

    def tell_reason(self, shape, nearness, reason):
        """Keep the bound that the reason shows."""
        need_shape(shape)
        need_nearness(shape, nearness)
        least = reason_bound(shape, nearness, reason)
        if least is None:
            raise NoReason("no reason of the shape and the nearness")
        told = (shape, nearness)
        self.bounds[told] = max(least, self.bounds.get(told, least))

    def told_range(self, shape, nearness):
        """How few rows may cover, at least and at most, by all that was told."""
        need_shape(shape)
        need_nearness(shape, nearness)
        return (self.low(shape, nearness), self.high(shape, nearness))

    def low(self, shape, nearness):
        """The greatest number from beneath: so many rows for another shape come from fewer for this one."""
        least = 1
        for (other, nearness_too), number in self.bounds.items():
            times = factor(shape, nearness, other, nearness_too)
            if times is not None:
                least = max(least, divided_up(number, times))
        return least

    def high(self, shape, nearness):
        """The least number from above: so many times the rows for another shape are enough for this one."""
        most = size(shape)
        for (other, nearness_too), number in self.sizes.items():
            times = factor(other, nearness_too, shape, nearness)
            if times is not None:
                most = min(most, number * times)
        return most


def reason_bound(shape, nearness, reason):
    """The bound that a reason shows; None of what is no reason."""
    if not is_worded(reason):
        return None
    match reason:
        case ("weights", weights):
            return bound(shape, weights, nearness, 1) if weights_fit(shape, weights) else None
        case ("counts", counts):
            return counted(shape, nearness, counts) if counts_fit(shape, counts) else None
        case ("cases", many, paper):
            return cases_bound(shape, nearness, many, paper)
    return None


def cases_bound(shape, nearness, many, paper):
    """One row more than the paper shows to be too few; None where it is not read."""
    if not is_whole_from(many, 0) or not are_read(shape, nearness, many, paper):
        return None
    return many + 1
