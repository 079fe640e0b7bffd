"""What the tests share: answers told apart by kind too, small keys and rows, things of other kinds."""

import copy
import itertools
import unittest

OTHER_KINDS = [
    True, False, None, 0, 1, -1, 7, 10 ** 30,
    [], ["a"], ["a", "b"], [[]], [["a"]], [["a"], ["b"]], [None], [True], [0],
    (), ("a",), ("a", "b"), ((),), (("a",),), (None,), (["a"], ("b", [])), [("a", 0, None)],
]


def nested(depth, core, kind):
    """A thing with core so many lists or tuples deep."""
    for step in range(depth):
        core = kind([core])
    return core


def small_keys(signs, most):
    """All keys of these signs with at most so many of them."""
    return ["".join(word) for many in range(most + 1) for word in itertools.product(signs, repeat=many)]


def small_lists(keys, most):
    """All lists of these keys with at most so many of them."""
    return [list(some) for many in range(most + 1) for some in itertools.product(keys, repeat=many)]


def small_rows(keys, most):
    """All rows of these keys with at most so many of them."""
    return [some for some in small_lists(keys, most) if some == sorted(some)]


class Case(unittest.TestCase):
    def told(self, got, wanted):
        """An answer is the wanted one, also in its kinds: True is not 1, a tuple no list."""
        self.assertEqual(repr(got), repr(wanted))

    def keeps(self, ask, *handed):
        """Asking twice tells the same, changes nothing handed in, and tells lists of its own."""
        # Copies are handed in: what a test shares with others must not be changed here.
        handed, ahead = copy.deepcopy(handed), copy.deepcopy(handed)
        first = ask(*handed)
        self.told(handed, ahead)
        kept = copy.deepcopy(first)
        second = ask(*handed)
        self.told(second, kept)
        self.told(handed, ahead)
        if isinstance(first, list):
            self.assertIsNot(first, second)
            for thing in handed:
                self.assertIsNot(first, thing)
            first.reverse()
            first.append("changed")
            self.told(second, kept)
            self.told(handed, ahead)
            self.told(ask(*handed), kept)
        for thing in handed:
            if isinstance(thing, list):
                thing.append("changed")
                thing.reverse()
        self.told(second, kept)
        self.told(ask(*ahead), kept)
