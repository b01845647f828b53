"""Texts of answers, exchanges and pairs, written and read."""

from nearrows.answers import answers_fit, need_answers
from nearrows.errors import NoRow, NoText
from nearrows.exchanges import exchange_fits, need_exchange
from nearrows.heaptexts import FIGURES, NO_ROWS, figures_of, need_text, numbers_of
from nearrows.kinds import is_tuple_of
from nearrows.shapes import need_shape, row_fits


def answers_text(shape, answers):
    """Each row with its distance behind it, with a blank between."""
    need_shape(shape)
    need_answers(shape, answers)
    return listed([f"{figures_of(row)}={gap}" for row, gap in answers])


def exchange_text(shape, exchange):
    """The order's figures, and behind them for each place the figures of its signs."""
    need_shape(shape)
    need_exchange(shape, exchange)
    order, signs = exchange
    return " ".join([figures_of(numbers) for numbers in (order, *signs)])


def pairs_text(shape, pairs):
    """The two rows of each pair, with a blank between pairs."""
    need_shape(shape)
    need_pairs(shape, pairs)
    return listed([f"{figures_of(row)}>{figures_of(other)}" for row, other in pairs])


def read_answers(shape, text):
    """The answers of the shape that have this text."""
    need_shape(shape)
    need_text(text)
    if text == NO_ROWS:
        return ()
    answers = tuple([answer_of(part) for part in text.split(" ")])
    if not answers_fit(shape, answers):
        raise NoText("no text of answers of the shape")
    return answers


def read_exchange(shape, text):
    """The exchange of the shape that has this text."""
    need_shape(shape)
    need_text(text)
    order, *signs = [numbers_of(part) for part in text.split(" ")]
    exchange = (order, tuple(signs))
    if not exchange_fits(shape, exchange):
        raise NoText("no text of an exchange of the shape")
    return exchange


def need_pairs(shape, thing):
    """Refuse what are no pairs of rows of what is known to be a shape."""
    if not isinstance(thing, tuple) or not all([pair_fits(shape, pair) for pair in thing]):
        raise NoRow("no pairs of rows of the shape")


def pair_fits(shape, thing):
    """Whether this is a pair of rows of the shape."""
    return is_tuple_of(thing, 2) and row_fits(shape, thing[0]) and row_fits(shape, thing[1])


def listed(texts):
    """The texts with a blank between, or what stands for none."""
    return " ".join(texts) if texts else NO_ROWS


def answer_of(text):
    """The row and the distance that a text has; None for the distance where it has none."""
    row, sign, gap = text.partition("=")
    return (numbers_of(row), whole_of(gap))


def whole_of(text):
    """The whole number that a text tells in figures, without needless noughts; None of what tells none."""
    if not text or not all([sign in FIGURES for sign in text]):
        return None
    number = int(text)
    # Read is just what is written, so that needless noughts are refused.
    return number if str(number) == text else None
