"""Which heaps are like another but for an exchange."""

from nearrows.errors import TooMany
from nearrows.heaps import need_heap
from nearrows.shapes import need_shape

MOST_LIKE_ROWS = 6


def like(shape, one, other):
    """An exchange that leads the shape to itself and the one heap to the other, or None."""
    need_shape(shape)
    need_heap(shape, one)
    need_heap(shape, other)
    if max(len(one), len(other)) > MOST_LIKE_ROWS:
        raise TooMany("more rows than six")
    return exchange_between(shape, one, other)


def exchange_between(shape, one, other):
    """Such an exchange, or None, of what are known to be heaps of few rows."""
    if len(one) != len(other):
        return None
    paired = rows_in_turn(shape, one, other, [])
    return None if paired is None else exchange_of(shape, one, paired)


def rows_in_turn(shape, one, other, taken):
    """The other heap's rows, those taken first, such that the one's can lead to them in turn; or None."""
    # A row is taken only where those so far can be led, so that few of all the ways are gone to the end.
    if sorted(marks(shape, one[:len(taken)])) != sorted(marks(shape, taken)):
        return None
    if len(taken) == len(one):
        return taken
    for row in other:
        if row not in taken:
            found = rows_in_turn(shape, one, other, taken + [row])
            if found is not None:
                return found
    return None


def marks(shape, rows):
    """For each spot what an exchange keeps of it: how many signs it has, and which rows have the same one there."""
    return [(signs, firsts(column(rows, spot))) for spot, signs in enumerate(shape)]


def firsts(signs):
    """For each of the signs at which place it stands first."""
    return tuple([signs.index(sign) for sign in signs])


def column(rows, spot):
    """The rows' signs at the spot."""
    return [row[spot] for row in rows]


def exchange_of(shape, one, other):
    """The exchange that leads the one's rows, in turn, to the other's, where the marks allow it."""
    free = marks(shape, one)
    order = []
    for mark in marks(shape, other):
        spot = free.index(mark)
        free[spot] = None
        order.append(spot)
    signs = [
        sign_change(shape[spot], column(one, spot), column(other, place)) for place, spot in enumerate(order)
    ]
    return (tuple(order), tuple(signs))


def sign_change(many, signs, led):
    """Where each of so many signs goes if these go where they are led."""
    others = [sign for sign in range(many) if sign not in signs]
    free = [sign for sign in range(many) if sign not in led]
    goes = dict(zip(signs + others, led + free))
    return tuple([goes[sign] for sign in range(many)])
