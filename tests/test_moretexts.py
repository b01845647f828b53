"""Promise 25, and 2 as far as it touches these texts."""

import copy
import itertools
import unittest

from nearrows.errors import NoAnswers, NoExchange, NoRow, NoShape, NoText
from nearrows.moretexts import answers_text, exchange_text, pairs_text, read_answers, read_exchange
from nearrows.moves import changes
from tests.samples import Agreeing, anything, exchanges, heaps, odd_things, rows

SHAPE = (3, 3, 2)
ANSWERS = (((0, 2, 1), 1), ((1, 1, 0), 2))
# It leads 2x3 to 3x2.
TURN = ((1, 0), ((0, 2, 1), (1, 0)))


def spoilt(text):
    """Texts that have a sign more, less or another than this one."""
    signs = "0123456789 =->x,\n"
    for at in range(len(text) + 1):
        yield text[:at] + text[at + 1:]
        for sign in signs:
            yield text[:at] + sign + text[at:]
            yield text[:at] + sign + text[at + 1:]


def read_by_words(text, shape):
    """The answers of a text, None where it is none, by its written form alone."""
    if text == "-":
        return ()
    found = []
    for part in text.split(" "):
        spots, end = part[:len(shape)], part[len(shape):]
        if len(spots) < len(shape) or end[:1] != "=" or not end[1:].isdecimal() or end != f"={int(end[1:])}":
            return None
        if not all(sign in "0123456789"[:many] for sign, many in zip(spots, shape)):
            return None
        found.append((tuple(map(int, spots)), int(end[1:])))
    return tuple(found)


class Answers(unittest.TestCase):
    def check_both(self, shape, answers, text):
        self.assertEqual(answers_text(shape, answers), text)
        self.assertEqual(read_answers(shape, text), answers)
        self.assertIs(type(read_answers(shape, text)), tuple)

    def check_no_text(self, shape, thing):
        self.assertRaises(NoText, lambda: read_answers(shape, thing))

    def test_as_the_document_writes_them(self):
        self.check_both(SHAPE, ANSWERS, "021=1 110=2")
        self.check_both(SHAPE, ANSWERS[::-1], "110=2 021=1")
        self.check_both(SHAPE, ANSWERS[:1], "021=1")

    def test_none(self):
        for shape in (SHAPE, (2,), (2,) * 8):
            self.check_both(shape, (), "-")

    def test_distances(self):
        for gap in (0, 1, 9, 10, 100, 10 ** 29):
            self.check_both(SHAPE, (((0, 0, 0), gap),), f"000={gap}")

    def test_rows_again(self):
        self.check_both((9,), (((8,), 1),) * 3, "8=1 8=1 8=1")

    def test_each_row(self):
        for shape in ((9, 9), (2,) * 8, (2, 3, 4)):
            for row in rows(shape):
                self.check_both(shape, ((row, 3),), "".join(map(str, row)) + "=3")

    def test_just_so_written(self):
        for text in ("021=1 110=2", "021=0", "000=10", "-"):
            for other in spoilt(text):
                expected = read_by_words(other, SHAPE)
                with self.subTest(text=other):
                    if expected is None:
                        self.check_no_text(SHAPE, other)
                    else:
                        self.check_both(SHAPE, expected, other)

    def test_wrong_texts(self):
        for text in (
            "", " ", "--", "- ", " -", "- 021=1", "021=1 -", "021=01", "021=00", "021=", "=1", "021", "021 =1", "021= 1",
            "021=1  110=2", " 021=1", "021=1 ", "021=1\n", "021=1\n110=2", "021==1", "021=1=1", "021=-1", "021=+1", "021=1_0",
            "321=1", "022=1", "02=1", "0211=1", "021:1", "021=1,110=2", "021=x", "021=1.0", "0 2 1=1", "021=1 110", "((), 1)",
        ):
            with self.subTest(text=text):
                self.check_no_text(SHAPE, text)

    def test_what_is_no_text_of_anything(self):
        for thing in [*anything(), (), ANSWERS, ["021=1"], b"021=1", ("021=1",), Agreeing()]:
            with self.subTest(thing=repr(thing)):
                self.check_no_text(SHAPE, thing)

    def test_no_answers(self):
        for thing in [*anything(), [], [ANSWERS[0]], (((0, 2, 1), -1),), (((0, 2, 1), True),), (((0, 2, 2), 1),), "-"]:
            with self.subTest(thing=repr(thing)):
                self.assertRaises(NoAnswers, lambda: answers_text(SHAPE, thing))


class Exchanges(unittest.TestCase):
    def check_both(self, shape, exchange, text):
        self.assertEqual(exchange_text(shape, exchange), text)
        self.assertEqual(read_exchange(shape, text), exchange)

    def check_no_text(self, shape, thing):
        self.assertRaises(NoText, lambda: read_exchange(shape, thing))

    def test_as_the_document_writes_them(self):
        self.check_both((2, 3), TURN, "10 021 10")

    def test_each_exchange(self):
        for shape in ((2,), (4,), (2, 3), (3, 2), (2, 2, 2), (3, 3)):
            texts = set()
            for order, signs in exchanges(shape):
                text = " ".join("".join(map(str, numbers)) for numbers in (order, *signs))
                self.check_both(shape, (order, signs), text)
                texts.add(text)
            self.assertEqual(len(texts), len(exchanges(shape)))

    def test_of_many_spots_and_signs(self):
        self.check_both((2,) * 8, ((7, 6, 5, 4, 3, 2, 1, 0), ((1, 0),) * 8), "76543210" + " 10" * 8)
        self.check_both((9, 9), ((0, 1), (tuple(range(9)), (8, 7, 6, 5, 4, 3, 2, 1, 0))), "01 012345678 876543210")

    def test_just_so_written(self):
        fine = {" ".join("".join(map(str, part)) for part in (order, *signs)) for order, signs in exchanges((2, 3))}
        for text in ("10 021 10", "01 10 210"):
            for other in spoilt(text):
                with self.subTest(text=other):
                    if other in fine:
                        self.assertEqual(exchange_text((2, 3), read_exchange((2, 3), other)), other)
                    else:
                        self.check_no_text((2, 3), other)

    def test_wrong_texts(self):
        for text in (
            "", " ", "-", "10", "10 021", "10 021 10 10", "10  021 10", " 10 021 10", "10 021 10 ", "10 021 10\n", "10 10 021",
            "01 021 10", "11 021 10", "12 021 10", "10 022 10", "10 0210 10", "10 02 10", "10,021,10", "10 021 1 0",
            "010 021 10", "10\n021 10", "1 0 021 10", "10 021 00", "10 02x 10",
        ):
            with self.subTest(text=text):
                self.check_no_text((2, 3), text)

    def test_of_another_shape(self):
        self.check_no_text((3, 2), "10 021 10")
        self.check_no_text((2, 3, 2), "10 021 10")
        self.check_both((3, 2), ((1, 0), ((1, 0), (0, 2, 1))), "10 10 021")

    def test_what_is_no_text_of_anything(self):
        for thing in [*anything(), (), TURN, ["10 021 10"], b"10 021 10", ("10 021 10",), Agreeing()]:
            with self.subTest(thing=repr(thing)):
                self.check_no_text((2, 3), thing)

    def test_no_exchange(self):
        for thing in [*anything(), (), [TURN], list(TURN), ((0, 1), TURN[1]), ((1, 0), TURN[1][::-1]), "10 021 10"]:
            with self.subTest(thing=repr(thing)):
                self.assertRaises(NoExchange, lambda: exchange_text((2, 3), thing))


class Pairs(unittest.TestCase):
    def test_as_the_document_writes_them(self):
        self.assertEqual(pairs_text(SHAPE, (((0, 2, 1), (1, 1, 0)),)), "021>110")
        pairs = (((0, 0, 0), (2, 2, 1)), ((0, 2, 1), (1, 1, 0)))
        self.assertEqual(pairs_text(SHAPE, pairs), "000>221 021>110")

    def test_none(self):
        for shape in (SHAPE, (2,), (2,) * 8):
            self.assertEqual(pairs_text(shape, ()), "-")

    def test_what_changes_tell(self):
        for one, other in itertools.product(heaps((3, 2), 2), repeat=2):
            if len(one) == len(other):
                pairs = changes((3, 2), one, other)[1]
                texts = [f"{a}{b}>{c}{d}" for (a, b), (c, d) in pairs]
                self.assertEqual(pairs_text((3, 2), pairs), " ".join(texts) or "-")

    def test_many_pairs(self):
        every = rows((2,) * 8)
        text = pairs_text((2,) * 8, tuple(zip(every, every[::-1])))
        self.assertEqual(text.split(" ")[0], "00000000>11111111")
        self.assertEqual(len(text.split(" ")), 256)

    def test_rows_that_are_none(self):
        for row in [*odd_things(), (), (0, 0), (3, 0, 0), (0, 0, 2), [0, 0, 0], (True, 0, 0), "000"]:
            with self.subTest(row=repr(row)):
                self.assertRaises(NoRow, lambda: pairs_text(SHAPE, ((row, (0, 0, 0)),)))
                self.assertRaises(NoRow, lambda: pairs_text(SHAPE, (((0, 0, 0), row),)))

    def test_what_are_no_pairs(self):
        pair = ((0, 0, 0), (0, 0, 1))
        for thing in [*anything(), [pair], (list(pair),), (pair + pair,), (pair[:1],), pair, {pair: 1}]:
            with self.subTest(thing=repr(thing)):
                self.assertRaises(NoRow, lambda: pairs_text(SHAPE, thing))


class Refusals(unittest.TestCase):
    def test_no_shape_of_anything_before_all_else(self):
        for thing in [*anything(), ()]:
            with self.subTest(thing=repr(thing)):
                for function in (answers_text, exchange_text, pairs_text, read_answers, read_exchange):
                    self.assertRaises(NoShape, lambda: function(thing, None))
                self.assertRaises(NoShape, lambda: answers_text(thing, ()))
                self.assertRaises(NoShape, lambda: pairs_text(thing, ()))
                self.assertRaises(NoShape, lambda: read_answers(thing, "-"))


class Alike(unittest.TestCase):
    def test_what_is_handed_in_stays_and_all_is_told_alike(self):
        thing = [[[0, 2, 1], 1]]
        before = copy.deepcopy(thing)
        self.assertRaises(NoAnswers, lambda: answers_text(SHAPE, thing))
        self.assertRaises(NoText, lambda: read_answers(SHAPE, thing))
        self.assertRaises(NoExchange, lambda: exchange_text(SHAPE, thing))
        self.assertEqual(thing, before)
        self.assertEqual(answers_text(SHAPE, ANSWERS), answers_text(SHAPE, ANSWERS))
        self.assertEqual(read_exchange((2, 3), "10 021 10"), read_exchange((2, 3), "10 021 10"))


if __name__ == "__main__":
    unittest.main()
