"""The interface: all of it is there under its names, with its arguments."""

import importlib
import inspect
import unittest

FUNCTIONS = {
    "likening": {"is_key": "thing", "alike": "one other", "liken": "one other", "liken_from": "one other far"},
    "rows": {"is_row": "thing", "first_break": "keys", "alikes": "row", "two_merged": "one other"},
    "halves": {"halves": "numbers", "way_up": "numbers n", "height": "many"},
    "whole": {"merged": "rows", "merged_keys": "rows", "counts": "rows", "bounds_of": "rows"},
    "papers": {"next_of": "heads", "paper_of": "heads"},
    "papercheck": {"shows_next": "heads n thing", "signs_in": "paper"},
    "runs": {"stretches": "things", "runs_of": "things room", "is_run": "things thing"},
    "plans": {"is_plan": "sizes ways thing", "cost_of": "sizes tree", "free_plan": "sizes ways"},
    "nearplans": {"near_plan": "sizes ways", "prices_for": "sizes ways"},
    "nearcheck": {"shows_near": "sizes ways tree prices"},
    "sorting": {"merged_by": "things runs tree", "sort_by": "things room ways", "is_sorted": "things thing"},
    "sheet": {"run": "text"},
}

CLASSES = {
    "errors": {"OutOfOrder": {"__init__": "self row place"}, "BadLine": {"__init__": "self line"}},
    "merge": {"Merge": {
        "__init__": "self rows", "coming": "self", "take": "self", "take_few": "self many", "left": "self",
        "heads": "self", "likenings": "self", "looks": "self", "twin": "self", "add_row": "self row",
        "drop_row": "self n", "grow": "self n keys"}},
}


def arguments(call):
    """The names of what a call takes; none may have a default or be handed in by name alone."""
    parameters = inspect.signature(call).parameters.values()
    assert all(each.kind == each.POSITIONAL_OR_KEYWORD and each.default is each.empty for each in parameters)
    return " ".join(each.name for each in parameters)


class InterfaceTest(unittest.TestCase):
    def test_functions(self):
        for file, functions in FUNCTIONS.items():
            module = importlib.import_module("mergetree." + file)
            for name, wanted in functions.items():
                self.assertEqual(arguments(getattr(module, name)), wanted, (file, name))

    def test_classes(self):
        for file, classes in CLASSES.items():
            module = importlib.import_module("mergetree." + file)
            for name, methods in classes.items():
                for method, wanted in methods.items():
                    self.assertEqual(arguments(getattr(getattr(module, name), method)), wanted, (name, method))
