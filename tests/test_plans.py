"""Point [12]: trees of merges."""

import itertools
import random

from mergetree.plans import cost_of, free_plan, is_plan
from tests.helper import OTHER_KINDS, Case, all_trees, leaves, near_trees, nested, played_free, tree_cost

MOST = 10 ** 9


def some_sizes():
    """Lists of sizes of one to twelve and somewhat above, the same in each run."""
    source = random.Random(12)
    for many in range(1, 15):
        yield from ([0] * many, [1] * many, [MOST] * many, list(range(many)), list(range(many, 0, -1)))
        yield [2 ** at for at in range(many)]
        for most in (1, 3, 20, MOST):
            yield [source.randint(0, most) for at in range(many)]
        yield [source.choice((0, MOST)) for at in range(many)]


def few_sizes():
    """Lists of one to six sizes."""
    source = random.Random(6)
    for many in range(1, 7):
        yield from ([0] * many, [1] * many, [MOST] * many, list(range(many)), [2 ** at for at in range(many)])
        for time in range(4):
            yield [source.randint(0, source.choice((2, 9, MOST))) for at in range(many)]


def wanted_plan(sizes, ways, thing):
    """Whether a thing is a tree of merges, by the words."""
    def is_tree(part):
        if part.__class__ is tuple:
            return 2 <= len(part) <= ways and all(is_tree(each) for each in part)
        return part.__class__ is int
    return is_tree(thing) and sorted(leaves(thing)) == list(range(len(sizes)))


def changed_once(tree, put):
    """The tree with put(part) in the place of each of its parts in turn, itself too."""
    yield put(tree)
    if isinstance(tree, tuple):
        for at, part in enumerate(tree):
            for other in changed_once(part, put):
                yield tree[:at] + (other,) + tree[at + 1:]


def tuples_in(tree):
    """All tuples of a tree, itself too."""
    if not isinstance(tree, tuple):
        return []
    return [tree] + [each for part in tree for each in tuples_in(part)]


class IsPlanTest(Case):
    def test_one_size(self):
        for ways in range(2, 7):
            self.told(is_plan([5], ways, 0), True)
            for thing in ((0,), [0], (), [], 1, -1, (0, 0), False, True, None, "", "0", ((0,),), 10 ** 30):
                self.told(is_plan([5], ways, thing), False)

    def test_right_ones(self):
        self.told(is_plan([1, 2], 2, (0, 1)), True)
        self.told(is_plan([1, 2], 2, (1, 0)), True)
        self.told(is_plan([1, 2, 3], 2, ((2, 0), 1)), True)
        self.told(is_plan([1, 2, 3], 3, (2, 0, 1)), True)
        self.told(is_plan([0, 0, 0, 0], 2, (3, (2, (1, 0)))), True)
        self.told(is_plan([0] * 6, 6, (5, 3, 1, 0, 2, 4)), True)
        self.told(is_plan([1] * 12, 4, ((0, (1, 2)), (3, 4, 5, 6), 7, (8, 9, (10, 11)))), True)

    def test_all_small_trees(self):
        for many in range(1, 6):
            for ways in range(2, 7):
                for tree in all_trees(list(range(many)), ways):
                    self.assertIs(is_plan([1] * many, ways, tree), True, tree)
                for tree in all_trees(list(range(many)), 6):
                    self.assertIs(is_plan([1] * many, ways, tree), wanted_plan([1] * many, ways, tree), tree)

    def test_parts_in_any_order(self):
        for order in itertools.permutations(range(4)):
            for tree in near_trees(list(order), 4):
                self.told(is_plan([1, 2, 3, 4], 4, tree), True)

    def test_more_than_ways_parts(self):
        for ways in range(2, 7):
            for many in range(2, 9):
                self.told(is_plan([1] * many, ways, tuple(range(many))), many <= ways)
                self.told(is_plan([1] * (many + 1), ways, (tuple(range(many)), many)), many <= ways)

    def test_tuples_of_one_tree_and_of_none(self):
        for tree in ((0,), ((0, 1),), ((0,), 1), (0, (1,)), (((0,),), 1), (0, ((1,),)), (0, 1, ()), ((), 0, 1), ()):
            for ways in range(2, 7):
                self.told(is_plan([1, 2], ways, tree), False)
        for put in (lambda part: (part,), lambda part: (part, ()), lambda part: ()):
            for thing in changed_once(((0, 1), (2, 3, 4)), put):
                self.told(is_plan([1] * 5, 6, thing), False)

    def test_another_number(self):
        sizes = [1] * 5
        for tree in (((0, 1), (2, 3, 4)), (4, 3, 2, 1, 0), ((((0, 1), 2), 3), 4)):
            for number in range(-6, 8):
                for thing in changed_once(tree, lambda part: part if isinstance(part, tuple) else number):
                    wanted = wanted_plan(sizes, 5, thing)
                    self.assertIs(is_plan(sizes, 5, thing), wanted, thing)
                    self.assertEqual(wanted, thing == tree)

    def test_numbers_left_out_and_twice(self):
        for tree in ((0, 1), (0, 1, 1), (0, 2), (1, 2), (0, 0, 0), (0, 1, 2, 0), ((0, 1), (2, 0)), 0, 1, 2, (1, 2, 3)):
            for ways in range(3, 7):
                self.told(is_plan([1, 2, 3], ways, tree), False)
        for tree in ((0, 1, 2, 3), (-1, 0, 1), (-3, -2, -1), (0, 1, -1), (0, 1, 3), (0, 1, 10 ** 30)):
            self.told(is_plan([1, 2, 3], 6, tree), False)

    def test_true_and_false_are_no_numbers(self):
        for tree in ((False, 1), (0, True), (False, True), (0, 1, True), (0, 1, False)):
            self.told(is_plan([1, 2], 6, tree), False)
        self.told(is_plan([1], 6, False), False)

    def test_lists_are_no_tuples(self):
        for tree in ([0, 1, 2], [(0, 1), 2], ([0, 1], 2), (0, [1, 2]), [[0, 1], 2], (0, 1, [2]), ([0], 1, 2)):
            self.told(is_plan([1, 2, 3], 6, tree), False)
        for thing in changed_once(((0, 1), (2, 3, 4)), lambda part: list(part) if isinstance(part, tuple) else [part]):
            self.told(is_plan([1] * 5, 6, thing), False)

    def test_other_kinds(self):
        for sizes in ([1], [1, 2], [1, 2, 3]):
            for thing in OTHER_KINDS + ["", "0", "ab", (0, "1"), ("0", "1")]:
                self.assertIs(is_plan(sizes, 3, thing), wanted_plan(sizes, 3, thing), repr(thing))

    def test_another_thing_in_a_parts_place(self):
        for tree in ((0, 1, 2), ((0, 1), 2), (2, (1, 0))):
            for other in OTHER_KINDS + ["", "0", "a"]:
                for thing in changed_once(tree, lambda part: other):
                    self.assertIs(is_plan([1, 2, 3], 3, thing), wanted_plan([1, 2, 3], 3, thing), repr(thing))

    def test_twenty_deep(self):
        for kind in (list, tuple):
            for depth in (1, 2, 19, 20):
                for core in (0, "a", None, True, [], ()):
                    self.told(is_plan([1], 6, nested(depth, core, kind)), False)
                    if depth < 20:
                        self.told(is_plan([1, 2], 6, (0, nested(depth, core, kind))), False)
        tree = 20
        for number in reversed(range(20)):
            tree = (number, tree)
        self.told(is_plan([1] * 21, 2, tree), True)
        self.told(is_plan([1] * 20, 2, tree), False)
        self.told(is_plan([1] * 22, 2, tree), False)

    def test_a_great_thing_made_of_few(self):
        # Six of six and so on, twenty deep: it can't be walked to its end.
        for core in (0, (0, 1), ("a", 0), ()):
            thing = core
            for step in range(18):
                thing = (thing,) * 6
            self.told(is_plan([1] * 12, 6, thing), False)

    def test_nothing_is_changed(self):
        for thing in OTHER_KINDS + [(0, 1), ((0, 1), 2), ([0, 1], 2)]:
            self.keeps(is_plan, [1, 2, 3], 3, thing)


class CostOfTest(Case):
    def test_a_single_row(self):
        for size in (0, 1, MOST):
            self.told(cost_of([size], 0), 0)

    def test_plain_trees(self):
        self.told(cost_of([1, 2], (0, 1)), 3)
        self.told(cost_of([1, 2], (1, 0)), 3)
        self.told(cost_of([1, 2, 4], (0, 1, 2)), 7)
        self.told(cost_of([1, 2, 4], ((0, 1), 2)), 3 + 7)
        self.told(cost_of([1, 2, 4], (0, (1, 2))), 6 + 7)
        self.told(cost_of([1, 2, 4], (1, (2, 0))), 5 + 7)
        self.told(cost_of([1, 2, 4, 8], ((0, 1), (2, 3))), 3 + 12 + 15)
        self.told(cost_of([1, 2, 4, 8], (3, (2, (1, 0)))), 3 + 7 + 15)
        self.told(cost_of([1, 2, 4, 8, 16], ((0, 1, 2), 3, 4)), 7 + 31)

    def test_sizes_of_nought_and_great_ones(self):
        self.told(cost_of([0, 0, 0], ((0, 1), 2)), 0)
        self.told(cost_of([0, 5, 0], ((0, 1), 2)), 10)
        self.told(cost_of([0, 5, 0], ((0, 2), 1)), 5)
        self.told(cost_of([MOST] * 3, ((0, 1), 2)), 5 * MOST)
        self.told(cost_of([MOST] * 12, tuple(range(12))), 12 * MOST)

    def test_all_small_trees(self):
        for sizes in few_sizes():
            if len(sizes) < 6:
                for tree in all_trees(list(range(len(sizes))), 6):
                    self.told(cost_of(sizes, tree), tree_cost(sizes, tree))

    def test_nothing_is_changed(self):
        self.keeps(cost_of, [3], 0)
        self.keeps(cost_of, [1, 2, 4], ((0, 1), 2))


class FreePlanTest(Case):
    def test_one_and_two_sizes(self):
        for ways in range(2, 7):
            for size in (0, 1, MOST):
                self.told(free_plan([size], ways), (0, 0))
            self.told(free_plan([3, 4], ways), (7, (0, 1)))
            self.told(free_plan([4, 3], ways), (7, (1, 0)))
            self.told(free_plan([3, 3], ways), (6, (0, 1)))
            self.told(free_plan([0, 0], ways), (0, (0, 1)))

    def test_like_sizes_by_number_and_what_is_put_together_behind_the_rows(self):
        self.told(free_plan([1, 1, 1], 2), (2 + 3, (2, (0, 1))))
        self.told(free_plan([1, 1, 2], 2), (2 + 4, (2, (0, 1))))
        self.told(free_plan([2, 1, 1], 2), (2 + 4, (0, (1, 2))))
        self.told(free_plan([1, 1, 1, 1], 2), (2 + 2 + 4, ((0, 1), (2, 3))))
        self.told(free_plan([0, 0, 0], 2), (0, (2, (0, 1))))
        self.told(free_plan([0, 0, 0, 0], 2), (0, ((0, 1), (2, 3))))

    def test_the_first_time_fewer(self):
        # Four rows three ways: two first, then three.
        self.told(free_plan([1, 1, 1, 1], 3), (2 + 4, (2, 3, (0, 1))))
        self.told(free_plan([5, 1, 2, 9, 3], 3), (6 + 20, (0, (1, 2, 4), 3)))
        self.told(free_plan([9, 8, 7, 6, 5, 4], 4), (15 + 39, (2, 1, 0, (5, 4, 3))))

    def test_as_by_the_words(self):
        for sizes in some_sizes():
            for ways in range(2, 7):
                self.told(free_plan(sizes, ways), played_free(sizes, ways))

    def test_the_first_time_so_many(self):
        for many in range(2, 13):
            for ways in range(2, 7):
                cost, tree = free_plan(list(range(1, many + 1)), ways)
                tuples = tuples_in(tree)
                first = 2 + (many - 2) % (ways - 1)
                self.told(sorted(len(part) for part in tuples), sorted([first] + [ways] * (len(tuples) - 1)))
                self.assertIn(tuple(range(first)), tuples)

    def test_its_cost_is_that_of_its_tree(self):
        for sizes in some_sizes():
            for ways in range(2, 7):
                cost, tree = free_plan(sizes, ways)
                self.told(cost_of(sizes, tree), cost)
                self.told(tree_cost(sizes, tree), cost)
                self.told(is_plan(sizes, ways, tree), True)

    def test_no_tree_costs_less(self):
        trees = {(many, ways): all_trees(list(range(many)), ways) for many in range(1, 7) for ways in range(2, 7)}
        for sizes in few_sizes():
            for ways in range(2, 7):
                least = min(tree_cost(sizes, tree) for tree in trees[len(sizes), ways])
                self.told(free_plan(sizes, ways)[0], least)

    def test_nothing_is_changed(self):
        for sizes in ([4], [4, 3], [1, 1, 2, 3, 5]):
            for ways in (2, 3, 6):
                self.keeps(free_plan, sizes, ways)
