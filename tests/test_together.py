"""Point [1]: what is promised of the whole program, its parts beside one another."""

import itertools
import random

from mergetree.merge import Merge
from mergetree.nearcheck import shows_near
from mergetree.nearplans import near_plan, prices_for
from mergetree.papercheck import shows_next, signs_in
from mergetree.papers import next_of, paper_of
from mergetree.plans import cost_of, free_plan, is_plan
from mergetree.rows import is_row
from mergetree.runs import is_run, runs_of, stretches
from mergetree.sheet import run
from mergetree.sorting import is_sorted, merged_by, sort_by
from mergetree.whole import bounds_of, counts, merged, merged_keys
from tests.helper import Case, all_trees, is_paper, near_trees, some_row, tree_cost


def some_merges():
    """Lists of rows, the same in each run."""
    source = random.Random(21)
    for many in range(17):
        for signs in ("a", "ab", "abcd"):
            yield [some_row(source, 6, signs) for row in range(many)]


def some_things():
    """Lists of keys, the same in each run."""
    source = random.Random(22)
    for many in (0, 1, 2, 3, 5, 9, 16, 30, 60):
        for signs in ("a", "ab", "abcd"):
            yield ["".join(source.choices(signs, k=source.randint(0, 4))) for at in range(many)]


def some_sizes():
    """Lists of sizes, the same in each run."""
    source = random.Random(23)
    for many in range(1, 7):
        for most in (0, 1, 9, 10 ** 9):
            yield [source.randint(0, most) for at in range(many)]


def written(keys):
    """Keys as words of a sheet, each behind a blank."""
    return "".join(" " + (key or "-") for key in keys)


class MergesTest(Case):
    def test_piece_by_piece_beside_the_whole(self):
        source = random.Random(24)
        for rows in some_merges():
            wanted = merged(rows)
            merge, things = Merge(rows), []
            while merge.coming():
                # What is asked between costs nothing and changes nothing.
                merge.left(), merge.heads(), merge.twin().take()
                things += merge.take_few(source.randint(0, 3))
            self.told([(row, place) for row, place, key in things], wanted)
            self.told([key for row, place, key in things], merged_keys(rows))
            self.told((merge.likenings(), merge.looks()), counts(rows))
            self.told(is_row(merged_keys(rows)), True)

    def test_counts_within_bounds(self):
        for rows in some_merges():
            for count, bound in zip(counts(rows), bounds_of(rows), strict=True):
                self.assertLessEqual(count, bound, rows)

    def test_a_late_row_stands_as_if_it_had_always_been_there(self):
        for rows in some_merges():
            if rows and len(rows) < 17:
                merge = Merge(rows[:-1])
                merge.add_row(rows[-1])
                self.told(merge.heads(), Merge(rows).heads())
                self.told([(row, place) for row, place, key in merge.take_few(1000)], merged(rows))

    def test_papers_behind_each_take(self):
        for rows in some_merges():
            merge = Merge(rows)
            for step in range(len(merged(rows)) + 1):
                heads, coming = merge.heads(), merge.coming()
                paper = paper_of(heads)
                self.told(next_of(heads), coming[0] if coming else None)
                self.told(shows_next(heads, next_of(heads), paper), True)
                self.assertTrue(is_paper(heads, next_of(heads), paper))
                self.told(signs_in(paper), sum(far + 1 for row, winner, far in paper))
                merge.take()


class SortsTest(Case):
    def test_beside_the_tests_own_sorting(self):
        for things in some_things():
            wanted = sorted(range(len(things)), key=lambda number: (things[number], number))
            for room in (1, 2, 5, 16):
                for ways in (2, 4, 6):
                    numbers, cost = sort_by(things, room, ways)
                    self.told(numbers, wanted)
                    self.told(is_sorted(things, numbers), True)

    def test_beside_runs_and_near_trees_asked_alone(self):
        for things in some_things():
            for room in (1, 2, 5, 16):
                runs = runs_of(things, room)
                for numbers in runs:
                    self.told(is_run(things, numbers), True)
                for numbers in runs[:-1]:
                    self.assertGreaterEqual(len(numbers), room)
                if runs:
                    for ways in (2, 4, 6):
                        sizes = [len(numbers) for numbers in runs]
                        cost, tree = near_plan(sizes, ways)
                        self.told(sort_by(things, room, ways), (merged_by(things, runs, tree), cost))
                        self.told(cost_of(sizes, tree), cost)
                        self.told(shows_near(sizes, ways, tree, prices_for(sizes, ways)), True)

    def test_runs_merged_as_rows(self):
        for things in some_things():
            for runs in (stretches(things), runs_of(things, 4)):
                if 0 < len(runs) <= 16:
                    rows = [[things[number] for number in numbers] for numbers in runs]
                    numbers = [runs[row][place] for row, place in merged(rows)]
                    self.told(numbers, sort_by(things, 4, 3)[0])


class CostsTest(Case):
    def test_free_and_near_beside_all_trees(self):
        for sizes in some_sizes():
            for ways in range(2, 7):
                numbers = list(range(len(sizes)))
                free_cost, free_tree = free_plan(sizes, ways)
                near_cost, near_tree = near_plan(sizes, ways)
                self.told(free_cost, min(tree_cost(sizes, tree) for tree in all_trees(numbers, ways)))
                self.told(near_cost, min(tree_cost(sizes, tree) for tree in near_trees(numbers, ways)))
                self.assertLessEqual(free_cost, near_cost)
                self.told(is_plan(sizes, ways, free_tree) and is_plan(sizes, ways, near_tree), True)
                self.told(shows_near(sizes, ways, near_tree, prices_for(sizes, ways)), True)
                # A tree of another cost is never shown to be the least near one.
                if free_cost < near_cost:
                    self.told(shows_near(sizes, ways, free_tree, prices_for(sizes, ways)), False)


class SheetsTest(Case):
    def test_merges_beside_a_merge_asked_alone(self):
        for rows in some_merges():
            if len(rows) < 17:
                names = ["abcdefghijklmnop"[at] * (at % 8 + 1) for at in range(len(rows))]
                text = "".join(f"row {name}{written(row)}\n" for name, row in zip(names, rows))
                merge = Merge([])
                for row in rows:
                    merge.add_row(row)
                wanted = ["done"] * len(rows)
                for step in range(4):
                    text += "coming\nleft\ncounts\nrows\ntake 3\n"
                    coming = merge.coming()
                    wanted.append(f"{names[coming[0]]}:{coming[2] or '-'}" if coming else "-")
                    wanted += [str(merge.left()), f"{merge.likenings()} {merge.looks()}"]
                    heads = [names[row] + ":" + ("." if key is None else key or "-") for row, key in merge.heads()]
                    wanted.append(" ".join(heads) or "-")
                    things = [f"{names[row]}:{key or '-'}" for row, place, key in merge.take_few(3)]
                    wanted.append(" ".join(things) or "-")
                self.told(run(text), wanted)

    def test_runs_and_sorts_beside_the_parts_asked_alone(self):
        for things in some_things():
            for room, ways in itertools.product((1, 3, 16), (2, 6)):
                numbers, cost = sort_by(things, room, ways)
                runs = [" ".join(map(str, each)) for each in runs_of(things, room)]
                self.told(run(f"runs {room}{written(things)}\nsort {room} {ways}{written(things)}"),
                          [" ; ".join(runs) or "-", " ".join(map(str, numbers)) or "-"])

    def test_costs_beside_the_parts_asked_alone(self):
        for sizes in some_sizes():
            sizes = [min(size, 999999999) for size in sizes]
            for ways in range(2, 7):
                words = " ".join(map(str, [ways] + sizes))
                self.told(run(f"free {words}\nnear {words}"),
                          [str(free_plan(sizes, ways)[0]), str(near_plan(sizes, ways)[0])])
