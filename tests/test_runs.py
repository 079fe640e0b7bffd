"""Point [11]: runs."""

import itertools
import random

from mergetree.runs import is_run, runs_of, stretches
from tests.helper import OTHER_KINDS, Case, nested, played_runs, small_lists

FALLING = ["f", "e", "d", "c", "b", "a"]
RISING = ["", "a", "ab", "b", "ba", "c"]
LIKE = ["k"] * 6
MIXED = ["c", "a", "b", "b", "", "ab", "a", "d", "c", "c"]


def some_things():
    """Things of all sizes to sixty and somewhat above, the same in each run."""
    source = random.Random(11)
    yield from ([], ["a"], FALLING, RISING, LIKE, MIXED, ["k" * 40] * 60)
    yield ["k" * (40 - at % 41) for at in range(60)]
    yield [chr(ord("a") + (60 - at) % 26) * 2 for at in range(60)]
    for many in list(range(2, 62, 3)) + [60, 61, 64]:
        for signs in ("a", "ab", "abcdefgh"):
            yield ["".join(source.choices(signs, k=source.randint(0, 4))) for at in range(many)]


class StretchesTest(Case):
    def test_plain_things(self):
        self.told(stretches([]), [])
        self.told(stretches(["a"]), [[0]])
        self.told(stretches([""]), [[0]])
        self.told(stretches(RISING), [[0, 1, 2, 3, 4, 5]])
        self.told(stretches(FALLING), [[0], [1], [2], [3], [4], [5]])
        self.told(stretches(LIKE), [[0, 1, 2, 3, 4, 5]])
        self.told(stretches(MIXED), [[0], [1, 2, 3], [4, 5], [6, 7], [8, 9]])
        self.told(stretches(["ab", "a", "a", "aa", ""]), [[0], [1, 2, 3], [4]])

    def test_as_few_as_can_be(self):
        for things in itertools.chain(some_things(), small_lists(["", "a", "b"], 5)):
            runs = stretches(things)
            self.told([number for run in runs for number in run], list(range(len(things))))
            falls = sum(less < ahead for ahead, less in itertools.pairwise(things))
            self.told(len(runs), falls + 1 if things else 0)
            for run in runs:
                keys = [things[number] for number in run]
                self.assertNotEqual(run, [])
                self.assertEqual(keys, sorted(keys))
                self.told(is_run(things, run), True)

    def test_the_told_lists_are_the_askers_own(self):
        for things in ([], ["a"], RISING, FALLING, LIKE, MIXED):
            self.keeps(stretches, things)


class RunsOfTest(Case):
    def test_no_things(self):
        for room in range(1, 18):
            self.told(runs_of([], room), [])

    def test_reckoned_by_hand(self):
        # With one place each thing goes out when the next comes: the stretches.
        self.told(runs_of(MIXED, 1), [[0], [1, 2, 3], [4, 5], [6, 7], [8, 9]])
        # In: c a; a goes, b comes for run 0; b goes, b comes; b goes, "" comes for run 1; c goes, ab comes for run 1;
        # "" goes, a comes for run 1; a goes, d; ab goes, c; c goes, c; c goes; d goes.
        self.told(runs_of(MIXED, 2), [[1, 2, 3, 0], [4, 6, 5, 8, 9, 7]])
        self.told(runs_of(["b", "a", "c", "a"], 2), [[1, 0, 2], [3]])
        self.told(runs_of(["b", "a", "a"], 2), [[1, 2, 0]])
        self.told(runs_of(["b", "b", "a", "b"], 1), [[0, 1], [2, 3]])

    def test_like_keys_by_number(self):
        for room in range(1, 18):
            self.told(runs_of(LIKE, room), [[0, 1, 2, 3, 4, 5]])
        self.told(runs_of(["b", "a", "b", "a"], 4), [[1, 3, 0, 2]])
        # The one that comes in is not less than its like: it is for the same run.
        self.told(runs_of(["b", "b"], 1), [[0, 1]])

    def test_things_in_order_make_one_run(self):
        for room in range(1, 18):
            for things in (RISING, LIKE, ["a"] * 30 + ["b"] * 30, sorted(MIXED)):
                self.told(runs_of(things, room), [list(range(len(things)))])

    def test_things_in_falling_order(self):
        self.told(runs_of(FALLING, 1), [[0], [1], [2], [3], [4], [5]])
        self.told(runs_of(FALLING, 2), [[1, 0], [3, 2], [5, 4]])
        self.told(runs_of(FALLING, 4), [[3, 2, 1, 0], [5, 4]])
        self.told(runs_of(FALLING, 5), [[4, 3, 2, 1, 0], [5]])
        sixty = [chr(ord("z") - at // 3) + "cba"[at % 3] for at in range(60)]
        for room in range(1, 17):
            runs = [list(range(begin, min(begin + room, 60)))[::-1] for begin in range(0, 60, room)]
            self.told(runs_of(sixty, room), runs)

    def test_room_for_all_of_them(self):
        for things in (["a"], FALLING, RISING, LIKE, MIXED):
            wanted = [sorted(range(len(things)), key=lambda number: (things[number], number))]
            for room in (len(things), len(things) + 1, 16, 17, 60):
                if room >= len(things):
                    self.told(runs_of(things, room), wanted)

    def test_one_place_tells_the_stretches(self):
        for things in itertools.chain(some_things(), small_lists(["", "a", "b"], 5)):
            self.told(runs_of(things, 1), stretches(things))

    def test_as_by_the_words(self):
        for things in some_things():
            for room in range(1, 18):
                self.told(runs_of(things, room), played_runs(things, room))

    def test_all_small_things_as_by_the_words(self):
        for things in small_lists(["", "a", "b"], 6):
            for room in (2, 3, 4):
                self.told(runs_of(things, room), played_runs(things, room))

    def test_what_is_promised_of_runs(self):
        for things in some_things():
            for room in range(1, 17):
                runs = runs_of(things, room)
                self.told(sorted(number for run in runs for number in run), list(range(len(things))))
                for run in runs:
                    self.told(is_run(things, run), True)
                for run in runs[:-1]:
                    self.assertGreaterEqual(len(run), room, things)

    def test_the_told_lists_are_the_askers_own(self):
        for things in ([], ["a"], RISING, FALLING, LIKE, MIXED):
            for room in (1, 2, 3, 16):
                self.keeps(runs_of, things, room)


class IsRunTest(Case):
    def test_right_ones(self):
        for run in ([0], [9], [4], [4, 1], [4, 1, 6, 5, 2, 3, 0, 8, 9, 7], [1, 2], [2, 3], [0, 8, 9], [0, 9]):
            self.told(is_run(MIXED, run), True)
        self.told(is_run([""], [0]), True)

    def test_none(self):
        self.told(is_run([], []), False)
        self.told(is_run(MIXED, []), False)

    def test_keys_or_like_keys_numbers_that_fall(self):
        for run in ([0, 1], [1, 4], [3, 2], [9, 8], [6, 1], [8, 0], [4, 1, 6, 5, 3, 2], [2, 0, 3]):
            self.told(is_run(MIXED, run), False)

    def test_a_number_twice(self):
        for number in range(len(MIXED)):
            self.told(is_run(MIXED, [number, number]), False)
        self.told(is_run(MIXED, [4, 1, 1]), False)
        self.told(is_run(MIXED, [4, 1, 6, 1]), False)
        self.told(is_run(LIKE, [0, 1, 1, 2]), False)

    def test_numbers_of_no_things(self):
        for number in (-1, -10, -11, 10, 11, 10 ** 30, -10 ** 30):
            for run in ([number], [4, number], [number, 4], [4, 1, number, 6]):
                self.told(is_run(MIXED, run), False)
        for number in (-1, 0, 1):
            self.told(is_run([], [number]), False)
        # By their places from the end these would rise.
        self.told(is_run(["a", "b"], [-2, -1]), False)
        self.told(is_run(["a", "b"], [0, -1]), False)

    def test_true_and_false_are_no_numbers(self):
        for run in ([True], [False], [False, True], [0, True], [False, 1], [0, 1, True]):
            self.told(is_run(["a", "b"], run), False)

    def test_tuples_are_no_runs(self):
        for run in ((0,), (0, 1), (), (4, 1)):
            self.told(is_run(MIXED, run), False)

    def test_all_lists_of_few_numbers(self):
        for things in small_lists(["", "a"], 3):
            for many in range(5):
                for run in itertools.product(range(-1, 4), repeat=many):
                    right = many > 0 and set(run) <= set(range(len(things)))
                    pairs = [(things[number], number) for number in run] if right else []
                    wanted = right and pairs == sorted(set(pairs))
                    self.assertIs(is_run(things, list(run)), wanted, (things, run))

    def test_other_kinds(self):
        for things in ([], ["a"], MIXED, LIKE):
            for thing in OTHER_KINDS + ["", "a", "0", "abc"]:
                self.assertIs(is_run(things, thing), repr(thing) == "[0]" and things != [], repr(thing))

    def test_another_thing_in_a_numbers_place(self):
        others = [thing for thing in OTHER_KINDS if thing.__class__ is not int] + ["", "0", "a", [4], (4,), ["c"]]
        for thing in others:
            for run in ([thing], [thing, thing], [4, thing], [thing, 4], [4, thing, 1], [4, 1, 6, thing]):
                self.assertIs(is_run(MIXED, run), False, repr(run))

    def test_nested_twenty_deep(self):
        for kind in (list, tuple):
            for depth in (2, 3, 19, 20):
                for core in (0, "a", None, True, [], ()):
                    self.told(is_run(MIXED, nested(depth, core, kind)), False)
                    if depth < 20:
                        self.told(is_run(MIXED, [4, nested(depth, core, kind)]), False)

    def test_nothing_is_changed(self):
        for thing in OTHER_KINDS + [[4, 1, 6], [1, 4], [0, 1, 2]]:
            self.keeps(is_run, MIXED, thing)
