"""How many times the rows of a heap that covers one shape are enough for another."""

from nearrows.shapes import count_rows, need_nearness, need_shape


def factor(one, nearness, other, nearness_too):
    """The least product of the signs of free spots, or None where the second nearness is less."""
    need_shape(one)
    need_shape(other)
    need_nearness(one, nearness)
    need_nearness(other, nearness_too)
    blind = nearness_too - nearness
    if blind < 0:
        return None
    return min([count_rows(free) for free, others in choices(other) if can_be_taken(one, others, blind)])


def choices(shape):
    """Each way to part a shape's numbers in two: those of free spots, and the others, greatest first."""
    parted = [((), ())]
    for signs in sorted(shape, reverse=True):
        parted = [(free + (signs,), others) for free, others in parted] + [
            (free, others + (signs,)) for free, others in parted
        ]
    return parted


def can_be_taken(one, others, blind):
    """Whether these spots, greatest first, are taken from the one's but for so many blind ones."""
    # The greatest are the hardest to take, so that it is best that these are blind.
    taken = others[blind:]
    offered = sorted(one, reverse=True)
    return len(taken) <= len(offered) and all([signs <= most for signs, most in zip(taken, offered)])
