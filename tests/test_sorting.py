"""Point [14]: sorts."""

import itertools
import random

from mergetree.nearplans import near_plan
from mergetree.plans import is_plan
from mergetree.runs import runs_of, stretches
from mergetree.sorting import is_sorted, merged_by, sort_by
from tests.helper import OTHER_KINDS, Case, all_trees, least_prices, near_trees, nested, small_lists

MIXED = ["c", "a", "b", "b", "", "ab", "a", "d", "c", "c"]
IN_ORDER = [4, 1, 6, 5, 2, 3, 0, 8, 9, 7]
FALLING = [letter * many for letter in "fedcba" for many in range(10, 0, -1)]


def in_order(things):
    """All numbers by rising (key, number), by Python's own sort."""
    return sorted(range(len(things)), key=lambda number: (things[number], number))


def in_order_of(things, numbers):
    """These numbers by rising (key, number)."""
    return [number for number in in_order(things) if number in numbers]


def some_things():
    """Things of all sizes to sixty and somewhat above, the same in each run."""
    source = random.Random(15)
    yield from ([], [""], ["a"], MIXED, FALLING, sorted(FALLING), ["k"] * 60, ["k" * 40] * 60, [""] * 5)
    for many in list(range(2, 62, 4)) + [60, 61]:
        for signs in ("a", "ab", "abcdefgh"):
            yield ["".join(source.choices(signs, k=source.randint(0, 4))) for at in range(many)]


def merged_tree(things, runs, tree):
    """What merged_by is to tell, by the words: a tuple's parts by (key, part, place)."""
    if not isinstance(tree, tuple):
        return list(runs[tree])
    parts = [merged_tree(things, runs, part) for part in tree]
    rows = [(things[number], part, place) for part, numbers in enumerate(parts) for place, number in enumerate(numbers)]
    return [parts[part][place] for key, part, place in sorted(rows)]


class MergedByTest(Case):
    def test_one_run(self):
        self.told(merged_by(["b", "a", "b"], [[1, 0, 2]], 0), [1, 0, 2])
        self.told(merged_by(["a"], [[0]], 0), [0])
        self.told(merged_by([], [[]], 0), [])

    def test_two_runs(self):
        self.told(merged_by(["b", "d", "a", "c"], [[0, 1], [2, 3]], (0, 1)), [2, 0, 3, 1])
        self.told(merged_by(["b", "d", "a", "c"], [[0, 1], [2, 3]], (1, 0)), [2, 0, 3, 1])
        self.told(merged_by(["a", "b", "c", "d"], [[2, 3], [0, 1]], (0, 1)), [0, 1, 2, 3])

    def test_like_keys_by_the_lesser_part_then_by_place(self):
        things = ["a", "a", "b", "b"]
        self.told(merged_by(things, [[0, 2], [1, 3]], (0, 1)), [0, 1, 2, 3])
        self.told(merged_by(things, [[0, 2], [1, 3]], (1, 0)), [1, 0, 3, 2])
        self.told(merged_by(things, [[1, 3], [0, 2]], (0, 1)), [1, 0, 3, 2])
        self.told(merged_by(["a"] * 6, [[0, 1], [2, 3], [4, 5]], (2, 0, 1)), [4, 5, 0, 1, 2, 3])
        self.told(merged_by(["a"] * 6, [[0, 1], [2, 3], [4, 5]], ((2, 1), 0)), [4, 5, 2, 3, 0, 1])
        self.told(merged_by(["a"] * 6, [[0, 1], [2, 3], [4, 5]], (1, (2, 0))), [2, 3, 4, 5, 0, 1])
        # Run 1's keys stand behind run 2's in their part, and so behind them in the whole.
        self.told(merged_by(["b", "a", "b", "a"], [[0], [1, 2], [3]], ((2, 1), 0)), [3, 1, 2, 0])

    def test_empty_runs(self):
        things = ["b", "a"]
        self.told(merged_by(things, [[0], [], [1]], (0, 1, 2)), [1, 0])
        self.told(merged_by(things, [[], [1, 0]], (0, 1)), [1, 0])
        self.told(merged_by(things, [[1, 0], []], (0, 1)), [1, 0])
        self.told(merged_by([], [[], [], []], ((0, 1), 2)), [])

    def test_all_trees_of_few_runs(self):
        for things in (MIXED, ["a"] * 8, ["b", "a"] * 5, ["c", "b", "a", "c", "b", "a", "a"]):
            for room in (1, 2):
                runs = runs_of(things, room)[:5]
                runs[-1] = in_order_of(things, set(range(len(things))) - set(sum(runs[:-1], [])))
                for tree in all_trees(list(range(len(runs))), 6):
                    self.assertIs(is_plan([1] * len(runs), 6, tree), True)
                    self.told(merged_by(things, runs, tree), merged_tree(things, runs, tree))

    def test_near_trees_tell_the_things_in_order(self):
        for things in (MIXED, ["a"] * 8, ["b", "a"] * 3, ["b", "b", "a"] * 2):
            for runs in (runs_of(things, 2), stretches(things)):
                for tree in near_trees(list(range(len(runs))), 4):
                    self.told(merged_by(things, runs, tree), in_order(things))

    def test_parts_in_any_order(self):
        things = ["b", "a", "b", "a", "a", "b"]
        runs = stretches(things)
        for order in itertools.permutations(range(len(runs))):
            for tree in near_trees(list(order), 4):
                self.told(merged_by(things, runs, tree), merged_tree(things, runs, tree))

    def test_ways_parts_and_sixty_runs(self):
        runs = [[number] for number in range(60)]
        tree = tuple(tuple(range(begin, begin + 6)) for begin in range(0, 60, 6))
        self.told(merged_by(FALLING, runs, (tree[:5], tree[5:])), in_order(FALLING))
        deep = 59
        for number in reversed(range(59)):
            deep = (number, deep)
        self.told(merged_by(FALLING, runs, deep), in_order(FALLING))

    def test_the_told_list_is_the_askers_own(self):
        self.keeps(merged_by, ["a"], [[0]], 0)
        self.keeps(merged_by, ["b", "a", "b"], [[1, 0, 2]], 0)
        self.keeps(merged_by, MIXED, runs_of(MIXED, 2), (0, 1))
        self.keeps(merged_by, MIXED, stretches(MIXED), ((0, 1), 2, (4, 3)))


class SortByTest(Case):
    def test_no_things(self):
        for room in range(1, 17):
            for ways in range(2, 7):
                self.told(sort_by([], room, ways), ([], 0))

    def test_one_thing(self):
        for key in ("", "a", "k" * 40):
            for room in (1, 2, 16):
                self.told(sort_by([key], room, 2), ([0], 0))

    def test_reckoned_by_hand(self):
        self.told(sort_by(["b", "a"], 1, 2), ([1, 0], 2))
        self.told(sort_by(["b", "a"], 2, 2), ([1, 0], 0))
        self.told(sort_by(["c", "b", "a"], 1, 2), ([2, 1, 0], 2 + 3))
        self.told(sort_by(["c", "b", "a"], 1, 3), ([2, 1, 0], 3))
        self.told(sort_by(["b", "b", "a", "a"], 1, 2), ([2, 3, 0, 1], 4))
        self.told(sort_by(MIXED, 2, 2), (IN_ORDER, 10))
        # The runs have sizes 1, 3, 2, 2 and 2.
        self.told(sort_by(MIXED, 1, 5), (IN_ORDER, 10))
        self.told(sort_by(MIXED, 1, 4), (IN_ORDER, 4 + 10))
        self.told(sort_by(MIXED, 1, 2), (IN_ORDER, 4 + 4 + 6 + 10))
        self.told(sort_by(MIXED, 16, 2), (IN_ORDER, 0))

    def test_things_in_order_cost_nothing(self):
        for things in (sorted(MIXED), sorted(FALLING), ["k"] * 60):
            for room in (1, 2, 7, 16):
                for ways in (2, 6):
                    self.told(sort_by(things, room, ways), (list(range(len(things))), 0))

    def test_sixty_runs(self):
        # Of sixty rows of size 1: so many stand so deep.
        for ways, cost in ((2, 4 * 5 + 56 * 6), (3, 10 * 3 + 50 * 4), (4, 1 * 2 + 59 * 3), (6, 31 * 2 + 29 * 3)):
            self.told(sort_by(FALLING, 1, ways), (list(range(59, -1, -1)), cost))

    def test_as_by_sorting(self):
        for things in some_things():
            for room in range(1, 17):
                for ways in (2, 3, 6):
                    self.told(sort_by(things, room, ways)[0], in_order(things))

    def test_all_small_things(self):
        for things in small_lists(["", "a", "b"], 5):
            for room in (1, 2, 3):
                self.told(sort_by(things, room, 2)[0], in_order(things))

    def test_the_cost_is_the_least_of_near_trees(self):
        for things in some_things():
            for room in (1, 2, 3, 5, 16):
                for ways in range(2, 7):
                    sizes = [len(run) for run in runs_of(things, room)]
                    cost = sort_by(things, room, ways)[1]
                    self.told(cost, near_plan(sizes, ways)[0] if sizes else 0)
                    if 0 < len(sizes) < 9:
                        self.told(cost, least_prices(sizes, ways)[len(sizes) - 1][2])

    def test_the_told_list_is_the_askers_own(self):
        for things in ([], ["a"], MIXED, FALLING, ["k"] * 5):
            for room in (1, 3, 16):
                self.keeps(sort_by, things, room, 2)


class IsSortedTest(Case):
    def test_right_ones(self):
        self.told(is_sorted([], []), True)
        self.told(is_sorted(["a"], [0]), True)
        self.told(is_sorted(MIXED, IN_ORDER), True)
        for things in some_things():
            self.told(is_sorted(things, in_order(things)), True)
            self.told(is_sorted(things, sort_by(things, 3, 4)[0]), True)

    def test_a_number_left_out_or_twice(self):
        for at in range(10):
            self.told(is_sorted(MIXED, IN_ORDER[:at] + IN_ORDER[at + 1:]), False)
            for number in range(10):
                self.told(is_sorted(MIXED, IN_ORDER[:at] + [number] + IN_ORDER[at:]), False)
                changed = IN_ORDER[:at] + [number] + IN_ORDER[at + 1:]
                self.told(is_sorted(MIXED, changed), changed == IN_ORDER)
        self.told(is_sorted(MIXED, []), False)
        self.told(is_sorted(["a"], []), False)

    def test_two_exchanged(self):
        for one, other in itertools.combinations(range(10), 2):
            changed = list(IN_ORDER)
            changed[one], changed[other] = IN_ORDER[other], IN_ORDER[one]
            self.told(is_sorted(MIXED, changed), False)
        for order in itertools.permutations(range(4)):
            self.told(is_sorted(["k"] * 4, list(order)), order == (0, 1, 2, 3))

    def test_past_the_end_and_below_nought(self):
        for at in range(10):
            for number in (-1, -10, 10, 11, 10 ** 30, IN_ORDER[at] - 10):
                self.told(is_sorted(MIXED, IN_ORDER[:at] + [number] + IN_ORDER[at + 1:]), False)
        self.told(is_sorted(MIXED, IN_ORDER + [10]), False)
        for thing in ([0], [1], [-1], [0, 1]):
            self.told(is_sorted([], thing), False)
        self.told(is_sorted(["a", "b"], [-2, -1]), False)

    def test_all_lists_of_few_numbers(self):
        for things in small_lists(["", "a"], 3):
            for many in range(5):
                for numbers in itertools.product(range(-1, 4), repeat=many):
                    wanted = list(numbers) == in_order(things)
                    self.assertIs(is_sorted(things, list(numbers)), wanted, (things, numbers))

    def test_true_and_false_are_no_numbers(self):
        for thing in ([False, True], [0, True], [False, 1]):
            self.told(is_sorted(["a", "b"], thing), False)
        self.told(is_sorted(["a"], [False]), False)

    def test_tuples_and_other_kinds(self):
        self.told(is_sorted(MIXED, tuple(IN_ORDER)), False)
        self.told(is_sorted([], ()), False)
        self.told(is_sorted(["a"], (0,)), False)
        for things in ([], ["a"], ["a", "b"], MIXED):
            for thing in OTHER_KINDS + ["", "a", "01"]:
                self.assertIs(is_sorted(things, thing), repr(thing) == repr(in_order(things)), repr(thing))

    def test_another_thing_in_a_numbers_place(self):
        for other in [thing for thing in OTHER_KINDS if thing.__class__ is not int] + ["", "a", "4"]:
            for at in range(10):
                self.assertIs(is_sorted(MIXED, IN_ORDER[:at] + [other] + IN_ORDER[at + 1:]), False, repr(other))
            self.told(is_sorted(["a"], [other]), False)

    def test_nested_twenty_deep(self):
        for kind in (list, tuple):
            for depth in (2, 3, 19, 20):
                for core in (0, "a", None, True, [], ()):
                    for things in ([], ["a"], MIXED):
                        self.told(is_sorted(things, nested(depth, core, kind)), False)
                        if depth < 20:
                            self.told(is_sorted(things, [nested(depth, core, kind)] * len(things)), things == [])

    def test_nothing_is_changed(self):
        for thing in OTHER_KINDS + [IN_ORDER, IN_ORDER[1:]]:
            self.keeps(is_sorted, MIXED, thing)
            self.keeps(is_sorted, [], thing)
