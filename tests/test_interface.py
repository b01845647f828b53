"""The interface as the document lists it, and what promise 2 says over the whole program."""

import copy
import importlib
import inspect
import unittest

from nearrows.errors import NoShape
from tests.samples import anything

# For each module its functions, each with as many arguments as it takes.
FUNCTIONS = {
    "shapes": {"is_shape": 1, "size": 1, "all_rows": 1, "is_row": 2, "distance": 3, "ball": 3, "ball_size": 2},
    "heaps": {"is_heap": 2},
    "heaptexts": {"shape_text": 1, "row_text": 2, "heap_text": 2, "read_shape": 1, "read_row": 2, "read_heap": 2},
    "near": {"nearest": 3, "far": 3, "covers": 4, "reach": 2},
    "thin": {"own_rows": 4, "is_thin": 3, "thinned": 3, "is_perfect": 3},
    "weights": {"are_weights": 2, "top": 3, "bound": 4, "even": 1, "packed": 2},
    "counts": {"are_counts": 2, "counted": 3, "doubled": 2},
    "makings": {"is_making": 1, "made": 1, "made_size": 1},
    "matrices": {"is_matrix": 1, "checks": 2, "by_goals": 2, "goals_reach": 2},
    "joined": {"split": 3, "is_normal": 4, "joined": 6},
    "exchanges": {"is_exchange": 2, "led_shape": 2, "led_row": 3, "led_heap": 3, "back": 2, "behind": 3},
    "like": {"like": 3},
    "cases": {"are_read": 4},
    "fewest": {"fewest": 2},
    "follows": {"factor": 4},
    "answers": {"are_answers": 2, "left": 2, "not_apart": 2},
    "moves": {"changes": 3},
    "moretexts": {
        "answers_text": 2, "exchange_text": 2, "pairs_text": 2, "read_answers": 2, "read_exchange": 2,
    },
}
CLASSES = {
    "tables": ("Table", {"tell_making": 1, "tell_reason": 3, "told_range": 2}),
    "desk": ("Desk", {"say": 1}),
}
HEAP = ((0, 0, 0), (1, 1, 1))
CUBE = (2, 2, 2)
SAME = ((0, 1, 2), ((0, 1),) * 3)
MATRIX = (2, ((1,), (1,)))
WEIGHTS = tuple((row, 2) for row in HEAP)
COUNTS = ((((0, 0, 0), 1), ((1, 1, 1), 1)), 2),
PAPER = ("few",)
ANSWERS = (((0, 0, 0), 1),)
# For each function what fits as its arguments.
FITTING = {
    "is_shape": (CUBE,), "size": (CUBE,), "all_rows": (CUBE,), "is_row": (CUBE, HEAP[0]), "distance": (CUBE, *HEAP),
    "ball": (CUBE, HEAP[0], 1), "ball_size": (CUBE, 1), "is_heap": (CUBE, HEAP), "shape_text": (CUBE,),
    "row_text": (CUBE, HEAP[0]), "heap_text": (CUBE, HEAP), "read_shape": ("2x2",), "read_row": (CUBE, "010"),
    "read_heap": (CUBE, "000 111"), "nearest": (CUBE, HEAP, (0, 1, 1)), "far": (CUBE, HEAP[:1], 1),
    "covers": (CUBE, HEAP, 1, 1), "reach": (CUBE, HEAP), "own_rows": (CUBE, HEAP, HEAP[0], 1),
    "is_thin": (CUBE, HEAP, 1), "thinned": (CUBE, HEAP, 2), "is_perfect": (CUBE, HEAP, 1),
    "are_weights": (CUBE, WEIGHTS), "top": (CUBE, WEIGHTS, 1), "bound": (CUBE, WEIGHTS, 1, 1), "even": (CUBE,),
    "packed": (CUBE, 1), "are_counts": (CUBE, COUNTS), "counted": (CUBE, 1, COUNTS), "doubled": (CUBE, 1),
    "is_making": (("alike", 2, 3),), "made": (("alike", 2, 3),), "made_size": (("alike", 2, 3),),
    "is_matrix": (MATRIX,), "checks": (MATRIX, HEAP[0]), "by_goals": (MATRIX, ((0, 0),)),
    "goals_reach": (MATRIX, ((0, 0),)), "split": (CUBE, HEAP, 1), "is_normal": (CUBE, HEAP, 1, 1),
    "joined": (CUBE, HEAP, 1, CUBE, HEAP, 1), "is_exchange": (CUBE, SAME), "led_shape": (CUBE, SAME),
    "led_row": (CUBE, SAME, HEAP[0]), "led_heap": (CUBE, SAME, HEAP), "back": (CUBE, SAME),
    "behind": (CUBE, SAME, SAME), "like": (CUBE, HEAP, HEAP), "are_read": (CUBE, 1, 1, PAPER), "fewest": (CUBE, 1),
    "factor": (CUBE, 1, CUBE, 1), "are_answers": (CUBE, ANSWERS), "left": (CUBE, ANSWERS), "not_apart": (CUBE, HEAP),
    "changes": (CUBE, HEAP, HEAP), "answers_text": (CUBE, ANSWERS), "exchange_text": (CUBE, SAME),
    "pairs_text": (CUBE, (HEAP,)), "read_answers": (CUBE, "000=1"), "read_exchange": (CUBE, "012 01 01 01"),
}
SHAPELESS = (
    "is_shape", "read_shape", "is_making", "made", "made_size", "is_matrix", "checks", "by_goals", "goals_reach",
)


def functions():
    """Each function with its name."""
    return [
        (name, getattr(importlib.import_module(f"nearrows.{module}"), name))
        for module, names in FUNCTIONS.items() for name in names
    ]


class Interface(unittest.TestCase):
    def test_each_function_takes_what_is_listed_by_its_places(self):
        many = {name: number for names in FUNCTIONS.values() for name, number in names.items()}
        for name, function in functions():
            with self.subTest(name=name):
                self.assertEqual(len(inspect.signature(function).parameters), many[name])
                self.assertEqual(len(FITTING[name]), many[name])
                function(*FITTING[name])

    def test_each_function_stands_in_its_module(self):
        for module, names in FUNCTIONS.items():
            for name in names:
                function = getattr(importlib.import_module(f"nearrows.{module}"), name)
                self.assertEqual(function.__module__, f"nearrows.{module}")

    def test_each_method_stands_in_its_class(self):
        for module, (name, methods) in CLASSES.items():
            kind = getattr(importlib.import_module(f"nearrows.{module}"), name)
            self.assertIsInstance(kind(), kind)
            for method, number in methods.items():
                self.assertIn(method, vars(kind))
                self.assertEqual(len(inspect.signature(getattr(kind(), method)).parameters), number)


class OverAll(unittest.TestCase):
    def test_what_is_handed_a_shape_refuses_what_is_none(self):
        for name, function in functions():
            if name not in SHAPELESS:
                for thing in [*anything(), ()]:
                    with self.subTest(name=name, thing=repr(thing)):
                        self.assertRaises(NoShape, lambda: function(thing, *FITTING[name][1:]))
                        # No other refusal comes before this one.
                        self.assertRaises(NoShape, lambda: function(thing, *[None] * len(FITTING[name][1:])))

    def test_asked_again_all_is_told_alike(self):
        for name, function in functions():
            with self.subTest(name=name):
                self.assertEqual(function(*FITTING[name]), function(*FITTING[name]))

    def test_what_is_handed_in_stays(self):
        before = copy.deepcopy(FITTING)
        for name, function in functions():
            function(*FITTING[name])
        self.assertEqual(FITTING, before)

    def test_lists_that_are_told_are_the_askers_own(self):
        lists = []
        for name, function in functions():
            told = function(*FITTING[name])
            if isinstance(told, list):
                lists.append(name)
                kept = list(told)
                told.clear()
                self.assertEqual(function(*FITTING[name]), kept, name)
        self.assertEqual(lists, ["all_rows", "ball", "far", "own_rows", "split", "left"])

    def test_what_is_told_has_no_lists_within(self):
        for name, function in functions():
            told = function(*FITTING[name])
            self.assertNotRegex(repr(tuple(told) if isinstance(told, list) else told), r"[\[{]", name)


if __name__ == "__main__":
    unittest.main()
