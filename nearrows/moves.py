"""The least changes from one heap to another, with prices that show that there are no fewer."""

from nearrows.errors import NoHeap, TooMany
from nearrows.heaps import need_heap
from nearrows.shapes import apart, need_shape

MOST_MOVED_ROWS = 16


def changes(shape, one, other):
    """All distances together, the pairs that have them, and the prices of the rows of both heaps."""
    need_shape(shape)
    need_heap(shape, one)
    need_heap(shape, other)
    if len(one) != len(other):
        raise NoHeap("the heaps have not as many rows")
    if len(one) > MOST_MOVED_ROWS:
        raise TooMany("more rows than sixteen")
    pairing = Pairing([[apart(row, too) for too in other] for row in one])
    for place in range(len(one)):
        pairing.pair(place)
    pairs = tuple([(row, other[mate]) for row, mate in zip(one, pairing.mates)])
    return (pairing.together(), pairs, (tuple(pairing.prices), tuple(pairing.prices_too)))


class Pairing:
    """Rows of the one heap, by their places, paired one by one with rows of the other.

    Two rows' prices are never together more than their distance, and just the distance where they are paired.
    """

    def __init__(self, gaps):
        self.gaps = gaps
        self.prices = [0] * len(gaps)
        self.prices_too = [0] * len(gaps)
        self.mates = [None] * len(gaps)
        self.mates_too = [None] * len(gaps)

    def pair(self, place):
        """Pair one more row of the one, where needed by other pairs for those that stand."""
        reached = [place]
        came = {}
        end = self.reach_one(reached, came)
        while self.mates_too[end] is not None:
            reached.append(self.mates_too[end])
            end = self.reach_one(reached, came)
        self.change_pairs(came, end)

    def reach_one(self, reached, came):
        """Change prices until a row of the other more is reached; came keeps from which of the reached rows."""
        step, place, end = min([
            (self.spare(place, too), place, too)
            for place in reached for too in range(len(self.gaps)) if too not in came
        ])
        for row in reached:
            self.prices[row] += step
        # The reached pairs stay as dear as they are, so that they still show what they showed.
        for too in came:
            self.prices_too[too] -= step
        came[end] = place
        return end

    def spare(self, place, too):
        """How much more the two rows' prices may be together."""
        return self.gaps[place][too] - self.prices[place] - self.prices_too[too]

    def change_pairs(self, came, end):
        """Pair the rows on the way back from the end, each with that from which it was reached."""
        while end is not None:
            place = came[end]
            given_up = self.mates[place]
            self.mates[place] = end
            self.mates_too[end] = place
            end = given_up

    def together(self):
        """The distances of all pairs."""
        return sum([self.gaps[place][mate] for place, mate in enumerate(self.mates)])
