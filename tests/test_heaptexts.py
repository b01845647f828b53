"""Promise 7, and 2 as far as it touches texts."""

import itertools
import unittest

from nearrows.errors import NoHeap, NoRow, NoShape, NoText
from nearrows.heaptexts import heap_text, read_heap, read_row, read_shape, row_text, shape_text
from tests.samples import SHAPES, anything, heaps, rows


def texts(signs, most):
    """Each text of at most so many of these signs."""
    return ["".join(some) for many in range(most + 1) for some in itertools.product(signs, repeat=many)]


def no_texts():
    """What is no text of anything."""
    return anything() + [(), (3, 2), [3, 2], ((0, 0),), b"3x2", b"00", 32]


class Written(unittest.TestCase):
    def test_shapes(self):
        self.assertEqual(shape_text((3, 3, 2)), "3x3x2")
        self.assertEqual(shape_text((9,)), "9")
        self.assertEqual(shape_text((2,) * 8), "2x2x2x2x2x2x2x2")

    def test_rows(self):
        self.assertEqual(row_text((3, 3, 2), (0, 2, 1)), "021")
        self.assertEqual(row_text((9,), (8,)), "8")
        self.assertEqual(row_text((2,) * 8, (0, 1) * 4), "01010101")

    def test_heaps(self):
        self.assertEqual(heap_text((3, 3, 2), ()), "-")
        self.assertEqual(heap_text((3, 3, 2), ((0, 2, 1),)), "021")
        self.assertEqual(heap_text((3, 3, 2), ((0, 2, 1), (1, 1, 0), (2, 0, 0))), "021 110 200")

    def test_what_is_none_is_refused(self):
        for thing in anything() + [[3, 2]]:
            with self.subTest(thing=repr(thing)):
                self.assertRaises(NoShape, lambda: shape_text(thing))
                self.assertRaises(NoShape, lambda: row_text(thing, (0, 0)))
                self.assertRaises(NoShape, lambda: heap_text(thing, ()))
                self.assertRaises(NoRow, lambda: row_text((3, 2), thing))
                self.assertRaises(NoHeap, lambda: heap_text((3, 2), thing))
        self.assertRaises(NoHeap, lambda: heap_text((3, 2), ((1, 0), (0, 0))))
        self.assertRaises(NoHeap, lambda: heap_text((3, 2), ((1, 0), (1, 0))))
        self.assertRaises(NoRow, lambda: row_text((3, 2), (0, True)))


class Read(unittest.TestCase):
    def test_what_is_told_is_read(self):
        for shape in SHAPES + [(2,) * 8]:
            self.assertEqual(read_shape(shape_text(shape)), shape)
            for row in rows(shape):
                self.assertEqual(read_row(shape, row_text(shape, row)), row)
            for heap in ((), tuple(rows(shape)), tuple(rows(shape)[1::2])):
                self.assertEqual(read_heap(shape, heap_text(shape, heap)), heap)

    def test_what_is_read_are_tuples_of_whole_numbers(self):
        for told in (read_shape("3x3x2"), read_row((3, 3, 2), "021"), *read_heap((3, 2), "00 21")):
            self.assertIsInstance(told, tuple)
            self.assertEqual([type(number) for number in told], [int] * len(told))
        self.assertIsInstance(read_heap((3, 2), "00 21"), tuple)
        self.assertEqual(read_heap((3, 2), "-"), ())

    def check_just_these(self, told, read, tried):
        for text in tried:
            if text in told:
                self.assertEqual(read(text), told[text])
            else:
                with self.subTest(text=text):
                    self.assertRaises(NoText, lambda: read(text))

    def test_just_shapes_are_read(self):
        shapes = [(one,) for one in range(2, 10)] + [(one, two) for one in range(2, 10) for two in range(2, 10)]
        told = {"x".join(map(str, shape)): shape for shape in shapes}
        self.check_just_these(told, read_shape, texts("0123456789x- ", 3))
        self.check_just_these({}, read_shape, [
            "10", "02", "2x10", "2x02", "2xx2", "x2", "2x", "2X2", "2,2", "2 x 2", "(2, 2)", "2x2\n", " 2x2", "2x2 ",
            "5x6x9", "9x9x9x9", "2x2x2x2x2x2x2x2x2", "x" * 4000, "2" * 4000, "-2x2", "+2x2", "2_2", "two",
        ])

    def test_just_rows_are_read(self):
        told = {"".join(map(str, row)): row for row in rows((3, 2))}
        self.check_just_these(told, lambda text: read_row((3, 2), text), texts("01239x- \n", 3))
        self.check_just_these({}, lambda text: read_row((3, 2), text), ["-", "0x0", "(0, 0)", "0" * 4000, "00\n"])

    def test_just_heaps_are_read(self):
        told = {" ".join("".join(map(str, row)) for row in heap) or "-": heap for heap in heaps((2, 2), 4)}
        self.check_just_these(told, lambda text: read_heap((2, 2), text), texts("012- ", 5))
        self.check_just_these(told, lambda text: read_heap((2, 2), text), [
            "00 01 10 11", "00 01 11 10", "00 01 10 10", "00 01 10 11 ", " 00 01 10 11", "00  01", "00\n01", "00,01",
            "- -", "00 -", "- 00", "00 01 1", "00 01 100", " ", "00 " * 1300,
        ])

    def test_no_text_of_anything(self):
        for thing in no_texts():
            with self.subTest(thing=repr(thing)):
                self.assertRaises(NoText, lambda: read_shape(thing))
                self.assertRaises(NoText, lambda: read_row((3, 2), thing))
                self.assertRaises(NoText, lambda: read_heap((3, 2), thing))

    def test_no_shape_is_refused_first(self):
        for thing in anything() + [(), [3, 2]]:
            with self.subTest(thing=repr(thing)):
                self.assertRaises(NoShape, lambda: read_row(thing, None))
                self.assertRaises(NoShape, lambda: read_row(thing, "00"))
                self.assertRaises(NoShape, lambda: read_heap(thing, None))
                self.assertRaises(NoShape, lambda: read_heap(thing, "-"))
        self.assertRaises(NoShape, lambda: row_text((1,), None))
        self.assertRaises(NoShape, lambda: heap_text((1,), None))


if __name__ == "__main__":
    unittest.main()
