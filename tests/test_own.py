"""Point [2] over every function and every method: the same told again, nothing handed in changed or kept."""

import copy
import importlib
import inspect
import pathlib

from mergetree.merge import Merge
from mergetree.nearcheck import shows_near
from mergetree.plans import is_plan
from mergetree.rows import is_row
from mergetree.runs import is_run
from tests.helper import Case, lists_in, spoil
from tests.test_interface import CLASSES, FUNCTIONS

ROWS = [["a", "ab", "b"], [], ["", "ab"], ["b", "b"]]
HEADS = [(0, "ab"), (1, None), (2, "a"), (4, "a")]
PAPER = [(0, 2, 1), (4, 2, 1)]
THINGS = ["c", "a", "b", "b", "", "ab"]
PRICES = [(0, 1, 0), (0, 2, 3), (0, 3, 9), (1, 2, 0), (1, 3, 5), (2, 3, 0)]
SHEET = "row a b c\nrow d - a\nrows\ntake 2\nruns 1 b a\nsort 1 2 b a\nfree 2 1 2\nnear 2 1 2"
DEEP = [[["a", ("b", [0])]], ([1], None)]

# For each function things that may be handed in, empty ones too.
HANDED = {
    "is_key": [("ab",), (DEEP,)],
    "alike": [("ab", "ac")],
    "liken": [("ab", "ac")],
    "liken_from": [("ab", "ac", 1)],
    "is_row": [(["a", "b"],), ([],), (DEEP,)],
    "first_break": [(["b", "a"],), ([],)],
    "alikes": [(["a", "ab"],), ([],), (["a"],)],
    "two_merged": [(["a", "b"], ["a"]), ([], []), (["a"], []), ([], ["a"])],
    "halves": [([0, 1, 5],), ([3, 4],)],
    "way_up": [([0, 1, 5, 7, 8], 5), ([3], 3), ([3, 4], 4)],
    "height": [(5,)],
    "merged": [(ROWS,), ([],), ([[]],)],
    "merged_keys": [(ROWS,), ([],), ([["a"]],)],
    "counts": [(ROWS,)],
    "bounds_of": [(ROWS,)],
    "next_of": [(HEADS,), ([],)],
    "paper_of": [(HEADS,), ([],), ([(0, None)],), ([(0, "a")],)],
    "shows_next": [(HEADS, 2, PAPER), (HEADS, 2, DEEP), ([], None, [])],
    "signs_in": [(PAPER,), ([],)],
    "stretches": [(THINGS,), ([],), (["a"],)],
    "runs_of": [(THINGS, 2), (THINGS, 16), ([], 2), (["a"], 1)],
    "is_run": [(THINGS, [4, 1]), (THINGS, DEEP), ([], [])],
    "is_plan": [([1, 2, 3], 2, ((0, 1), 2)), ([1], 2, DEEP)],
    "cost_of": [([1, 2, 3], ((0, 1), 2)), ([1], 0)],
    "free_plan": [([1, 2, 3], 2), ([1], 2)],
    "near_plan": [([1, 2, 3], 2), ([1], 2)],
    "prices_for": [([1, 2, 3], 2), ([1], 2)],
    "shows_near": [([1, 2, 3], 2, ((0, 1), 2), PRICES), ([1], 2, DEEP, []), ([1], 2, 0, DEEP)],
    "merged_by": [(THINGS, [[0], [1, 2, 3], [4, 5]], ((0, 1), 2)), (["a"], [[0]], 0), ([], [[]], 0)],
    "sort_by": [(THINGS, 1, 2), (THINGS, 16, 6), ([], 1, 2), (["a"], 1, 2)],
    "is_sorted": [(THINGS, [4, 1, 5, 2, 3, 0]), (THINGS, DEEP), ([], [])],
    "run": [(SHEET,), ("",)],
}

# For each method of a Merge things that may be handed in.
METHODS = {
    "coming": [()], "take": [()], "take_few": [(2,), (0,), (99,)], "left": [()], "heads": [()], "likenings": [()],
    "looks": [()], "twin": [()], "add_row": [(["a", "b"],), ([],)], "drop_row": [(0,)],
    "grow": [(0, ["b", "c"]), (1, [])],
}


def asks():
    """Each function of the interface with things that may be handed in."""
    for file, functions in FUNCTIONS.items():
        module = importlib.import_module("mergetree." + file)
        for name in functions:
            for handed in HANDED[name]:
                yield getattr(module, name), copy.deepcopy(handed)


def state(merge):
    """All that can be asked of a Merge, to its end."""
    twin = merge.twin()
    ahead = (twin.coming(), twin.left(), twin.heads(), twin.likenings(), twin.looks())
    return ahead, twin.take_few(999), twin.likenings(), twin.looks(), twin.add_row([])


class EveryFunctionTest(Case):
    def test_every_function_is_asked(self):
        names = {name for functions in FUNCTIONS.values() for name in functions}
        self.assertEqual(names, set(HANDED))
        self.assertEqual(len(names), sum(len(functions) for functions in FUNCTIONS.values()))
        for path in (pathlib.Path(__file__).resolve().parent.parent / "mergetree").glob("*.py"):
            if path.stem not in ("__init__", "errors", "merge", "kinds", "words"):
                self.assertIn(path.stem, FUNCTIONS)

    def test_the_same_told_again_and_nothing_kept(self):
        for ask, handed in asks():
            self.keeps(ask, *handed)

    def test_no_list_told_at_two_places(self):
        for ask, handed in asks():
            told = ask(*handed)
            self.own(told)
            self.own(told, handed)

    def test_one_answer_told_between_others(self):
        # Each function's answer is the same behind all others, whose answers and things are spoilt.
        first = [copy.deepcopy(ask(*handed)) for ask, handed in asks()]
        for ask, handed in asks():
            spoil(ask(*handed))
            spoil(handed)
        self.told([ask(*handed) for ask, handed in asks()], first)

    def test_what_was_told_may_be_handed_in_again(self):
        for ask, handed in asks():
            told = ask(*handed)
            kept = copy.deepcopy(told)
            for again in (is_row(told), is_run(THINGS, told), is_plan([1, 2], 3, told), shows_near([1], 3, told, told)):
                self.assertIsInstance(again, bool)
            self.told(told, kept)


class EveryMethodTest(Case):
    def test_every_method_is_asked(self):
        self.assertEqual(set(METHODS) | {"__init__"}, set(CLASSES["merge"]["Merge"]))
        for name in METHODS:
            self.assertTrue(inspect.isfunction(getattr(Merge, name)))

    def test_what_was_handed_in_stays_and_is_not_kept(self):
        for name, several in METHODS.items():
            for handed in several:
                rows, ahead = copy.deepcopy(ROWS), copy.deepcopy(ROWS)
                merge = Merge(rows)
                self.told(rows, ahead)
                handed = copy.deepcopy(handed)
                kept = copy.deepcopy(handed)
                told = getattr(merge, name)(*handed)
                self.told(handed, kept)
                self.told(rows, ahead)
                wanted = state(merge)
                self.own(told if name != "twin" else None, rows, handed)
                spoil(rows)
                spoil(handed)
                if name != "twin":
                    spoil(told)
                self.told(state(merge), wanted)

    def test_what_was_told_stays_as_it_was(self):
        for name, several in METHODS.items():
            for handed in several:
                merge = Merge(ROWS)
                told = merge.twin() if name == "twin" else getattr(merge, name)(*handed)
                kept = state(told) if name == "twin" else copy.deepcopy(told)
                merge.take_few(3)
                merge.add_row(["a"])
                merge.grow(2, ["b"])
                merge.drop_row(3)
                self.told(state(told) if name == "twin" else told, kept)

    def test_the_same_told_by_merges_of_the_same(self):
        for name, several in METHODS.items():
            for handed in several:
                if name != "twin":
                    self.told(getattr(Merge(ROWS), name)(*handed), getattr(Merge(ROWS), name)(*handed))

    def test_asks_told_twice_are_two_lists(self):
        merge = Merge(ROWS)
        self.own(merge.heads(), merge.heads(), merge.take_few(1), merge.take_few(0), merge.take_few(0))
        self.assertEqual(len(lists_in([merge.heads()])), 2)
