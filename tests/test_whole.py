"""Point [9], and what point [1] promises of merges."""

import itertools
import random

from mergetree.merge import Merge
from mergetree.rows import is_row, two_merged
from mergetree.whole import bounds_of, counts, merged, merged_keys
from tests.helper import Case, Played, small_rows, some_row


def some_rows():
    """Lists of rows of all sizes, the same in each run."""
    source = random.Random(5)
    yield from ([], [[]], [[], []], [["a"]], [["", "", "b"]], [[], ["a"], []], [["a"]] * 16, [[]] * 16)
    yield [["k" * 40] * 60] * 16
    yield [["k" * at for at in range(60)] for row in range(5)]
    for many in range(17):
        for time in range(12):
            most, signs = source.choice((1, 4, 20)), source.choice(("a", "ab", "abc"))
            yield [some_row(source, most, signs) for row in range(many)]


def in_order(rows):
    """Tuples (key, row, place) of all things by Python's own sort."""
    return sorted((key, number, place) for number, row in enumerate(rows) for place, key in enumerate(row))


def played_out(rows):
    """How many likenings and looks there are till all have gone out, by the words."""
    played = Played(rows)
    played.take_few(sum(len(row) for row in rows))
    return (played.likenings, played.looks)


class MergedTest(Case):
    def test_plain_rows(self):
        rows = [["b", "d"], ["a", "b"], [], ["", "b", "c"]]
        self.told(merged(rows), [(3, 0), (1, 0), (0, 0), (1, 1), (3, 1), (3, 2), (0, 1)])
        self.told(merged_keys(rows), ["", "a", "b", "b", "b", "c", "d"])

    def test_no_rows_and_empty_rows(self):
        for rows in ([], [[]], [[], [], []]):
            self.told(merged(rows), [])
            self.told(merged_keys(rows), [])

    def test_by_sorting(self):
        for rows in some_rows():
            things = in_order(rows)
            self.told(merged(rows), [(row, place) for key, row, place in things])
            self.told(merged_keys(rows), [key for key, row, place in things])

    def test_all_small_rows(self):
        for rows in itertools.product(small_rows(["", "a", "b"], 2), repeat=3):
            things = in_order(rows)
            self.told(merged(list(rows)), [(row, place) for key, row, place in things])
            self.told(merged_keys(list(rows)), [key for key, row, place in things])

    def test_two_rows_as_two_merged(self):
        for one, other in itertools.product(small_rows(["", "a", "ab"], 3), repeat=2):
            self.told(merged([one, other]), two_merged(one, other))

    def test_however_it_is_asked_piece_by_piece(self):
        for rows in some_rows():
            wanted = merged(rows)
            for piece in (1, 3, 7):
                merge, things = Merge(rows), []
                while merge.coming():
                    things += merge.take_few(piece)
                self.told([(row, place) for row, place, key in things], wanted)

    def test_told_keys_are_a_row_and_may_be_handed_in_again(self):
        for rows in some_rows():
            keys = merged_keys(rows)
            self.told(is_row(keys), True)
            self.told(merged_keys([keys, keys]), sorted(keys + keys))

    def test_the_told_lists_are_the_askers_own(self):
        for ask in (merged, merged_keys, counts, bounds_of):
            for rows in ([], [[]], [["a"]], [["b", "d"], ["a", "b"], [], ["", "b", "c"]]):
                self.keeps(ask, rows)


class CountsTest(Case):
    def test_reckoned_by_hand(self):
        self.told(counts([["a", "b"], ["ab", "b"], ["", "z"]]), (8, 7))
        self.told(counts([["abcd", "abce"], ["abcf", "abd"]]), (2, 5))
        self.told(counts([["", ""], ["", "a"]]), (2, 2))

    def test_none_where_nothing_meets(self):
        for rows in ([], [[]], [["a", "b"]], [[], ["a", "b"], []], [[]] * 16):
            self.told(counts(rows), (0, 0))

    def test_as_a_merge_takes_them_to_its_end(self):
        for rows in some_rows():
            merge = Merge(rows)
            while merge.take():
                pass
            self.told(counts(rows), (merge.likenings(), merge.looks()))

    def test_as_by_the_words(self):
        for rows in some_rows():
            self.told(counts(rows), played_out(rows))


class BoundsOfTest(Case):
    def test_no_rows(self):
        self.told(bounds_of([]), (0, 0))

    def test_one_row(self):
        self.told(bounds_of([[]]), (0, 0))
        self.told(bounds_of([["ab", "b", "b"]]), (0, 4))

    def test_reckoned_by_hand(self):
        # Two less one, and one match on the way of each of four; two likenings and fifteen signs.
        self.told(bounds_of([["abcd", "abce"], ["abcf", "abd"]]), (1 + 4, 2 + 15))
        # Three less one, and two matches on the way of each of six; eight likenings and six signs.
        self.told(bounds_of([["a", "b"], ["ab", "b"], ["", "z"]]), (2 + 2 * 6, 8 + 6))
        self.told(bounds_of([[], [], [], []]), (3, 0))
        self.told(bounds_of([["a"]] * 5), (4 + 3 * 5, counts([["a"]] * 5)[0] + 5))
        self.told(bounds_of([["a"]] * 16)[0], 15 + 4 * 16)

    def test_as_by_the_words(self):
        heights = [0, 0, 1, 2, 2, 3, 3, 3, 3, 4, 4, 4, 4, 4, 4, 4, 4]
        for rows in some_rows():
            many = len(rows)
            likenings = max(many - 1, 0) + heights[many] * len(in_order(rows))
            signs = sum(len(key) for key, row, place in in_order(rows))
            self.told(bounds_of(rows), (likenings, played_out(rows)[0] + signs))

    def test_counts_are_never_above(self):
        everything = itertools.chain(some_rows(), itertools.product(small_rows(["", "a", "aa"], 2), repeat=3))
        for rows in everything:
            rows = list(rows)
            for count, bound in zip(counts(rows), bounds_of(rows), strict=True):
                self.assertLessEqual(count, bound, rows)
