"""Promise 26, and 2 as far as it touches desks."""

import unittest

from nearrows.answers import left, not_apart
from nearrows.counts import counted, doubled
from nearrows.desk import Desk
from nearrows.errors import (
    NoExchange, NoHeap, NoName, NoNearness, NoNumber, NoSay, NotCovering, NoText, TooMany,
)
from nearrows.exchanges import led_heap
from nearrows.fewest import fewest
from nearrows.heaptexts import heap_text, row_text
from nearrows.moretexts import pairs_text, read_answers, read_exchange
from nearrows.moves import changes
from nearrows.near import covers, far, nearest, reach
from nearrows.thin import thinned
from nearrows.weights import bound, even, packed
from tests.samples import Agreeing, anything, rows

SHAPE = (3, 3, 2)
HEAP = ((0, 0, 0), (0, 1, 1), (2, 2, 1))
WHOLE = " ".join("".join(map(str, row)) for row in rows(SHAPE))
# A desk's first words, with a fitting row for each.
FITTING = (
    "shape new 2x2", "heap new s 000 111", "show h", "far h 1", "covers h 1 1", "reach h", "near h 021", "thin new w 1",
    "even s 1", "doubled s 1", "packed s 1", "fewest s 1", "apart h", "leave s 021=1 110=2", "moves h g",
    "lead new h 102 021 012 10",
)


def desk_told(*sayings):
    """A desk that was told these rows."""
    desk = Desk()
    for saying in sayings:
        desk.say(saying)
    return desk


def stocked():
    """A desk with two shapes, and four heaps of the one and one of the other."""
    return desk_told(
        "shape s 3x3x2", "heap h s 000 011 221", "heap g s 001 110 220", f"heap w s {WHOLE}", "heap none s -",
        "shape t 3x3x2", "heap k t 000 011 221",
    )


class DeskCase(unittest.TestCase):
    def setUp(self):
        self.desk = stocked()

    def check_say(self, saying, answer):
        told = self.desk.say(saying)
        self.assertEqual(told, answer)
        self.assertIs(type(told), str)

    def check_refused(self, kind, saying):
        before = repr(vars(self.desk))
        with self.assertRaises(kind) as caught:
            self.desk.say(saying)
        self.assertIs(type(caught.exception), kind)
        self.assertEqual(repr(vars(self.desk)), before)


class Answers(DeskCase):
    def test_shape_heap_show(self):
        self.check_say("shape new 2x2", "ok")
        self.check_say("heap fresh new 00 11", "ok")
        self.check_say("show fresh", "00 11")
        self.check_say("heap fresh new -", "ok")
        self.check_say("show fresh", "-")
        self.check_say("show h", "000 011 221")

    def test_far(self):
        for nearness in range(4):
            self.check_say(f"far h {nearness}", heap_text(SHAPE, tuple(far(SHAPE, HEAP, nearness))))
        self.check_say("far h 3", "-")
        self.check_say("far none 3", WHOLE)

    def test_covers(self):
        for nearness in range(4):
            for often in range(1, 5):
                answer = "yes" if covers(SHAPE, HEAP, nearness, often) else "no"
                self.check_say(f"covers h {nearness} {often}", answer)
        self.check_say("covers h 3 3", "yes")
        self.check_say("covers h 3 4", "no")
        self.check_say("covers h 3 100000000000000000000000000000", "no")

    def test_reach(self):
        nearness, row = reach(SHAPE, HEAP)
        self.check_say("reach h", f"{nearness} {row_text(SHAPE, row)}")
        self.check_say("reach w", "0 000")

    def test_near(self):
        for row in rows(SHAPE):
            gap, found = nearest(SHAPE, HEAP, row)
            self.check_say(f"near h {row_text(SHAPE, row)}", f"{gap} {row_text(SHAPE, found)}")
            self.check_say(f"near none {row_text(SHAPE, row)}", "none")

    def test_thin(self):
        for nearness in range(4):
            answer = heap_text(SHAPE, thinned(SHAPE, tuple(rows(SHAPE)), nearness))
            self.check_say(f"thin new w {nearness}", answer)
            self.check_say("show new", answer)
        self.check_say("show w", WHOLE)

    def test_bounds(self):
        for nearness in range(4):
            self.check_say(f"even s {nearness}", str(bound(SHAPE, even(SHAPE), nearness, 1)))
            self.check_say(f"doubled s {nearness}", str(counted(SHAPE, nearness, doubled(SHAPE, nearness))))
            self.check_say(f"packed s {nearness}", str(len(packed(SHAPE, nearness))))
        self.check_say("shape eight 2x2x2x2x2x2x2x2", "ok")
        self.check_say("even eight 1", "29")
        self.check_say("doubled eight 1", "32")
        self.check_say("packed eight 1", "16")

    def test_fewest(self):
        for nearness in range(4):
            number, heap, paper = fewest(SHAPE, nearness)
            self.check_say(f"fewest s {nearness}", f"{number} {heap_text(SHAPE, heap)}")

    def test_apart(self):
        self.check_say("apart w", "yes")
        self.check_say("apart none", "000 001")
        one, other = not_apart(SHAPE, HEAP[:1])
        self.check_say("heap first s 000", "ok")
        self.check_say("apart first", f"{row_text(SHAPE, one)} {row_text(SHAPE, other)}")

    def test_leave(self):
        for text in ("021=1 110=2", "021=0", "000=3", "000=4", "000=100", "000=1 000=1", "021=1 110=2 000=2"):
            answer = heap_text(SHAPE, tuple(left(SHAPE, read_answers(SHAPE, text))))
            self.check_say(f"leave s {text}", answer)
        self.check_say("leave s -", WHOLE)
        self.check_say("leave s 000=4", "-")

    def test_moves(self):
        other = ((0, 0, 1), (1, 1, 0), (2, 2, 0))
        number, pairs, prices = changes(SHAPE, HEAP, other)
        self.check_say("moves h g", f"{number} {pairs_text(SHAPE, pairs)}")
        self.check_say("moves h h", "0 000>000 011>011 221>221")
        self.check_say("moves none none", "0 -")

    def test_lead(self):
        for text in ("102 021 012 10", "012 012 012 01", "012 210 201 10"):
            answer = heap_text(SHAPE, led_heap(SHAPE, read_exchange(SHAPE, text), HEAP))
            self.check_say(f"lead new h {text}", answer)
            self.check_say("show new", answer)
        self.check_say("lead new none 012 012 012 10", "-")

    def test_each_row_of_the_list_fits(self):
        for saying in FITTING:
            self.assertIs(type(self.desk.say(saying)), str)


class Sayings(DeskCase):
    def test_no_say_of_anything(self):
        for thing in [*anything(), (), ["show h"], ("show h",), b"show h", "", " ", "\n", Agreeing()]:
            with self.subTest(thing=repr(thing)):
                self.check_refused(NoSay, thing)

    def test_unknown_words(self):
        for saying in ("hide h", "Show h", "shows h", "sho h", "show\th", "show\nh", "h", "s", "-", "0", "help", "SHOW h"):
            with self.subTest(saying=saying):
                self.check_refused(NoSay, saying)

    def test_blanks(self):
        for saying in FITTING:
            for other in (f" {saying}", f"{saying} ", saying.replace(" ", "  "), saying.replace(" ", "  ", 1), f"  {saying}"):
                with self.subTest(saying=other):
                    self.check_refused(NoSay, other)
            for at in [place for place, sign in enumerate(saying) if sign == " "]:
                self.check_refused(NoSay, saying[:at] + " " + saying[at:])

    def test_words_left_out(self):
        for saying in FITTING:
            words = saying.split(" ")
            for many in range(1, len(words)):
                shorter = " ".join(words[:many])
                with self.subTest(saying=shorter):
                    if words[0] in ("heap", "lead") and many > 3 or words[0] == "leave" and many > 2:
                        # What follows is a text, and one of fewer words is one too, or none.
                        self.assertNotIsInstance(self.outcome(shorter), NoSay)
                    else:
                        self.check_refused(NoSay, shorter)

    def test_a_word_more(self):
        for saying in FITTING:
            for word in ("x", "1", "000", "-"):
                longer = f"{saying} {word}"
                with self.subTest(saying=longer):
                    if saying.split(" ")[0] in ("heap", "lead", "leave"):
                        self.check_refused(NoText, longer)
                    else:
                        self.check_refused(NoSay, longer)

    def outcome(self, saying):
        """What comes of a row, refusals too."""
        try:
            return self.desk.say(saying)
        except ValueError as refusal:
            return refusal

    def test_numbers(self):
        for number in ("01", "00", "-1", "+1", "1.0", "x", "one", "1_0", "0x1", "1\n", "-", "-0"):
            for saying in (f"far h {number}", f"covers h {number} 1", f"covers h 1 {number}", f"thin new w {number}",
                           f"even s {number}", f"doubled s {number}", f"packed s {number}", f"fewest s {number}"):
                with self.subTest(saying=saying):
                    self.check_refused(NoSay, saying)

    def test_no_say_before_no_name(self):
        for saying in ("far nobody 01", "far NOBODY x", "show A B", "covers nobody 1 01", "thin A B C", "even A 01",
                       "moves A", "heap A B", "leave A", "lead A B", "shape A", "shape A 2x2 2x2", "near A", "apart A B"):
            with self.subTest(saying=saying):
                self.check_refused(NoSay, saying)


class Names(DeskCase):
    def test_names(self):
        for name in ("a", "z", "abcdefgh", "shape", "heap", "ok", "none", "yes"):
            self.check_say(f"shape {name} 2x2", "ok")
            self.check_say(f"heap x {name} 01", "ok")
            self.check_say("show x", "01")

    def test_no_names(self):
        for name in ("A", "aB", "abcdefghi", "a1", "1", "-", "a-b", "a_b", "h.", "h\n", "2x2", "=", "~"):
            for saying in (f"shape {name} 2x2", f"heap {name} s 000", f"heap new {name} 000", f"show {name}",
                           f"far {name} 1", f"covers {name} 1 1", f"reach {name}", f"near {name} 000",
                           f"thin {name} w 1", f"thin new {name} 1", f"even {name} 1", f"doubled {name} 1",
                           f"packed {name} 1", f"fewest {name} 1", f"apart {name}", f"leave {name} -",
                           f"moves {name} h", f"moves h {name}", f"lead {name} h 012 012 012 01",
                           f"lead new {name} 012 012 012 01"):
                with self.subTest(saying=saying):
                    self.check_refused(NoName, saying)

    def test_nothing_of_that_sort(self):
        for name in ("nobody", "s"):
            for saying in (f"show {name}", f"far {name} 1", f"covers {name} 1 1", f"reach {name}", f"near {name} 000",
                           f"thin new {name} 1", f"apart {name}", f"moves {name} h", f"moves h {name}",
                           f"lead new {name} 012 012 012 01"):
                with self.subTest(saying=saying):
                    self.check_refused(NoName, saying)
        for name in ("nobody", "h"):
            for saying in (f"heap new {name} 000", f"even {name} 1", f"doubled {name} 1", f"packed {name} 1",
                           f"fewest {name} 1", f"leave {name} -"):
                with self.subTest(saying=saying):
                    self.check_refused(NoName, saying)

    def test_a_heaps_new_that_is_its_shapes(self):
        self.check_refused(NoName, "heap s s 000")
        self.check_refused(NoName, "thin s w 1")
        self.check_refused(NoName, "lead s h 012 012 012 01")
        self.check_refused(NoName, "lead t k 012 012 012 01")
        self.check_refused(NoName, "heap nobody nobody 000")

    def test_moves_of_heaps_of_two_shapes_names(self):
        # Both shapes are 3x3x2, and the heaps the same, but they stand by two names.
        self.check_refused(NoName, "moves h k")
        self.check_refused(NoName, "moves k h")
        self.check_say("moves k k", "0 000>000 011>011 221>221")

    def test_no_name_before_what_the_functions_refuse(self):
        for saying in ("shape A nothing", "heap A s nothing", "heap new nobody nothing", "heap s s nothing", "far nobody 9",
                       "covers nobody 9 0", "near nobody x", "thin new nobody 9", "thin s none 9", "even nobody 9",
                       "fewest nobody 9", "leave nobody x", "moves none k", "moves k w", "lead s h x", "lead new nobody x"):
            with self.subTest(saying=saying):
                self.check_refused(NoName, saying)


class AsTheFunctionsRefuse(DeskCase):
    def test_no_text(self):
        for saying in ("shape new 1x2", "shape new 2X2", "shape new 2x2\n", "shape new 10", "shape new -", "shape s 0",
                       "shape new 2x2x2x2x2x2x2x2x2", "heap new s 000 000", "heap new s 111 000", "heap new s 003",
                       "heap new s 00", "heap h s -- -", "heap h s 000 -", "heap h s 000\n111", "near h 00", "near h 003",
                       "near none 300", "near h -", "leave s x", "leave s 021=01", "leave s 021", "leave s - -",
                       "leave s 0211=1", "lead new h x", "lead new h 012", "lead h h 012 012 012 02",
                       "lead new h 012 012 012 01 01", "lead new h 012 012 012"):
            with self.subTest(saying=saying):
                self.check_refused(NoText, saying)

    def test_no_nearness(self):
        for saying in ("far h 4", "covers h 4 1", "thin h w 4", "even s 4", "doubled s 4", "packed s 4", "fewest s 4",
                       "far h 100000000000000000000000000000"):
            with self.subTest(saying=saying):
                self.check_refused(NoNearness, saying)

    def test_the_first_in_errors(self):
        self.check_refused(NoNearness, "covers h 4 0")
        self.check_refused(NoNearness, "thin new none 4")
        self.desk.say("shape great 9x9")
        self.check_refused(NoNearness, "fewest great 3")
        self.desk.say(f"heap many s {WHOLE}")
        self.check_refused(NoHeap, "moves many h")

    def test_others(self):
        self.check_refused(NoNumber, "covers h 1 0")
        self.check_refused(NoHeap, "reach none")
        self.check_refused(NotCovering, "thin new h 0")
        self.check_refused(NotCovering, "thin h none 3")
        self.check_refused(NoHeap, "moves h none")
        self.check_refused(TooMany, "moves w w")
        self.desk.say("shape great 4x7")
        self.check_refused(TooMany, "fewest great 1")

    def test_the_row_of_not_covering(self):
        with self.assertRaises(NotCovering) as caught:
            self.desk.say("thin new h 1")
        self.assertEqual(caught.exception.row, far(SHAPE, HEAP, 1)[0])

    def test_lead_where_the_shape_is_not_led_to_itself(self):
        self.check_refused(NoExchange, "lead new h 201 10 012 012")
        self.check_refused(NoExchange, "lead h h 021 012 01 012")
        self.desk.say("shape two 2x3")
        self.desk.say("heap p two 00 12")
        self.check_refused(NoExchange, "lead q p 10 021 10")
        self.check_say("lead q p 01 10 210", "00 12")


class Kept(DeskCase):
    def test_a_heap_taken_anew(self):
        self.check_say("heap h s 221", "ok")
        self.check_say("show h", "221")
        self.check_say("heap h t 000", "ok")
        self.check_refused(NoName, "moves h g")
        self.check_say("moves h h", "0 000>000")

    def test_a_heap_made_of_itself(self):
        self.check_say("lead h h 012 012 012 10", "001 010 220")
        self.check_say("show h", "001 010 220")
        answer = heap_text(SHAPE, thinned(SHAPE, tuple(rows(SHAPE)), 1))
        self.check_say("thin w w 1", answer)
        self.check_say("show w", answer)

    def test_a_heap_stands_by_its_shapes_name(self):
        self.check_say("thin new w 0", WHOLE)
        self.check_say("lead newer k 012 012 012 01", "000 011 221")
        self.check_refused(NoName, "moves newer h")
        self.check_say("moves newer k", "0 000>000 011>011 221>221")
        self.check_say("shape s 2x2", "ok")
        self.check_refused(NoName, "show new")
        self.check_say("show newer", "000 011 221")

    def test_a_shape_told_anew(self):
        self.check_say("shape s 2x2", "ok")
        for name in ("h", "g", "w", "none"):
            self.check_refused(NoName, f"show {name}")
        self.check_say("show k", "000 011 221")
        self.check_say("even s 1", "2")
        self.check_say("heap h s 00 11", "ok")
        self.check_say("show h", "00 11")

    def test_the_same_shape_told_anew(self):
        self.check_say("shape s 3x3x2", "ok")
        self.check_refused(NoName, "show h")
        self.check_say("even s 1", "3")

    def test_a_shape_that_becomes_a_heap(self):
        self.check_say("heap s t 000 001", "ok")
        self.check_say("show s", "000 001")
        for name in ("h", "g", "w", "none"):
            self.check_refused(NoName, f"show {name}")
        self.check_refused(NoName, "even s 1")
        self.check_refused(NoName, "heap new s 000")
        self.check_say("moves s s", "0 000>000 001>001")
        self.check_refused(NoName, "heap t t 000")

    def test_a_shape_that_becomes_a_thinned_or_a_led_heap(self):
        self.check_say("lead s k 012 012 012 10", "001 010 220")
        self.check_refused(NoName, "show h")
        self.check_say("show s", "001 010 220")
        self.desk = stocked()
        self.check_say("thin t w 3", "221")
        self.check_refused(NoName, "show k")
        self.check_say("show t", "221")
        self.check_say("show w", WHOLE)

    def test_a_heap_that_becomes_a_shape(self):
        self.check_say("shape h 2x2", "ok")
        self.check_refused(NoName, "show h")
        self.check_say("even h 1", "2")
        self.check_say("show g", "001 110 220")
        self.check_say("heap x h 00", "ok")
        self.check_say("heap x s 000", "ok")

    def test_a_heap_may_have_the_name_of_another_shape_only_once(self):
        self.check_say("heap t s 000", "ok")
        self.check_refused(NoName, "show k")
        self.check_say("shape t 2x2", "ok")
        self.check_say("even t 1", "2")
        self.check_refused(NoName, "show t")

    def test_what_is_refused_changes_nothing(self):
        for saying in ("shape s nothing", "shape h 1x1", "heap h s 333", "heap t s nothing", "thin h h 0", "thin t h 0",
                       "lead h h 201 10 012 012", "lead t h 201 10 012 012", "lead t h nothing"):
            with self.assertRaises(ValueError):
                self.desk.say(saying)
        self.check_say("show h", "000 011 221")
        self.check_say("show k", "000 011 221")
        self.check_say("show none", "-")
        self.check_say("moves h g", stocked().say("moves h g"))

    def test_two_desks_keep_each_its_own(self):
        other = Desk()
        with self.assertRaises(NoName):
            other.say("show h")
        other.say("shape s 2x2")
        other.say("heap h s 01")
        self.check_say("show h", "000 011 221")
        self.assertEqual(other.say("show h"), "01")
        self.assertEqual(Desk().say("shape s 2x2"), "ok")

    def test_asked_again_all_is_told_alike(self):
        asking = [saying for saying in FITTING if " new " not in saying]
        first = [self.desk.say(saying) for saying in asking]
        self.assertEqual([self.desk.say(saying) for saying in asking], first)
        self.assertEqual([stocked().say(saying) for saying in FITTING], [stocked().say(saying) for saying in FITTING])

    def test_a_new_desk_keeps_nothing(self):
        for saying in FITTING[1:]:
            with self.assertRaises(NoName):
                Desk().say(saying)


if __name__ == "__main__":
    unittest.main()
