"""Exchanges of spots and of signs, which keep distances."""

from nearrows.errors import NoExchange
from nearrows.heaps import need_heap
from nearrows.kinds import is_tuple_of, is_whole
from nearrows.shapes import need_row, need_shape


def is_exchange(shape, thing):
    """Whether this is an exchange of the shape."""
    need_shape(shape)
    return exchange_fits(shape, thing)


def led_shape(shape, exchange):
    """The shape that the exchange leads this one to."""
    need_shape(shape)
    need_exchange(shape, exchange)
    return lead_shape(shape, exchange)


def led_row(shape, exchange, row):
    """The row that the exchange leads this one to."""
    need_shape(shape)
    need_row(shape, row)
    need_exchange(shape, exchange)
    return lead_row(exchange, row)


def led_heap(shape, exchange, heap):
    """The heap that the exchange leads this one to."""
    need_shape(shape)
    need_heap(shape, heap)
    need_exchange(shape, exchange)
    return lead_heap(exchange, heap)


def back(shape, exchange):
    """The exchange, of the shape that this one leads to, that leads back."""
    need_shape(shape)
    need_exchange(shape, exchange)
    order, signs = exchange
    places = inverse(order)
    return (places, tuple([inverse(signs[place]) for place in places]))


def behind(shape, first, second):
    """The exchange that leads where the second one leads what the first one has led."""
    need_shape(shape)
    need_exchange(shape, first)
    need_exchange(lead_shape(shape, first), second)
    order, signs = first
    order_too, signs_too = second
    return (
        tuple([order[place] for place in order_too]),
        tuple([tuple([goes[sign] for sign in signs[place]]) for place, goes in zip(order_too, signs_too)]),
    )


def need_exchange(shape, thing):
    """Refuse what is no exchange of what is known to be a shape."""
    if not exchange_fits(shape, thing):
        raise NoExchange("no exchange of the shape")


def exchange_fits(shape, thing):
    """Whether this is an exchange of what is known to be a shape."""
    if not is_tuple_of(thing, 2):
        return False
    order, signs = thing
    if not has_each_once(order, len(shape)) or not is_tuple_of(signs, len(shape)):
        return False
    return all([has_each_once(goes, shape[spot]) for spot, goes in zip(order, signs)])


def has_each_once(thing, many):
    """Whether this is a tuple with each of so many numbers, from 0 on, once."""
    # Only what are numbers can be sorted without an error of Python's own.
    if not is_tuple_of(thing, many) or not all([is_whole(number) for number in thing]):
        return False
    return sorted(thing) == list(range(many))


def lead_shape(shape, exchange):
    """The shape of the spots in the exchange's order."""
    order, signs = exchange
    return tuple([shape[spot] for spot in order])


def lead_row(exchange, row):
    """The row that what is known to be an exchange leads to."""
    order, signs = exchange
    return tuple([goes[row[spot]] for spot, goes in zip(order, signs)])


def lead_heap(exchange, heap):
    """The heap that what is known to be an exchange leads to."""
    return tuple(sorted([lead_row(exchange, row) for row in heap]))


def inverse(numbers):
    """At which place each of the numbers from 0 on stands."""
    return tuple([numbers.index(number) for number in range(len(numbers))])
