"""All balls of a shape by a nearness, as numbers that have a bit for each row."""

from nearrows.shapes import near_rows, rows_of


class Balls:
    """The balls of a shape, kept so that many heaps can be looked at soon."""

    def __init__(self, shape, nearness):
        self.shape = shape
        self.bits = {row: 1 << place for place, row in enumerate(rows_of(shape))}
        self.every = sum(self.bits.values())
        self.near = {row: near_rows(shape, row, nearness) for row in self.bits}
        self.masks = {row: sum([self.bits[other] for other in self.near[row]]) for row in self.bits}

    def far_from(self, chosen):
        """The rows that are far from all chosen ones."""
        far = self.every
        for row in chosen:
            far &= ~self.masks[row]
        return far

    def most_within(self, far):
        """The greatest number of these rows in one ball."""
        return max([ones(far & mask) for mask in self.masks.values()])


def ones(number):
    """How many bits of the number are set."""
    figures = f"{number:b}"
    return figures.count("1")
