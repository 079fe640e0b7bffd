"""Points [6] and [7]: the tree of matches as it is made and as things go out."""

import copy
import itertools
import random

from mergetree.errors import MergeError, OutOfOrder
from mergetree.merge import Merge
from tests.helper import Case, Played, break_in, outcome, small_rows, some_row, spoil, state_of

ROWS = [["a", "b"], ["ab", "b"], ["", "z"]]


def long_rows(many):
    """So many rows of sixty keys of up to forty letters, alike far on."""
    return [sorted("m" * (at % 40) + "aznm"[(at + number) % 4] for at in range(60)) for number in range(many)]


def some_merges():
    """Lists of rows of all sizes, the same in each run."""
    source = random.Random(7)
    for time in range(150):
        many = source.randint(0, 16)
        yield [some_row(source, source.choice((1, 3, 8)), source.choice(("a", "ab", "abz"))) for row in range(many)]
    for many in (1, 2, 5, 16):
        yield [some_row(source, 60, "ab", 40) for row in range(many)]
        yield long_rows(many)


class MergeCase(Case):
    def same_to_the_end(self, rows):
        """A merge is as played by the words, behind the making and behind each take."""
        merge, played = Merge(rows), Played(rows)
        self.told(state_of(merge), played.state())
        for time in range(sum(len(row) for row in rows) + 2):
            self.told(merge.take(), played.take())
            self.told(state_of(merge), played.state())
        self.told((merge.coming(), merge.left(), merge.take()), (None, 0, None))


class PlayTest(MergeCase):
    def test_three_rows_reckoned_by_hand(self):
        merge = Merge(ROWS)
        self.told(state_of(merge), ((2, 0, ""), 6, [(0, "a"), (1, "ab"), (2, "")], 2, 3))
        # a and z part from the empty key at once: one look.
        self.told(merge.take(), (2, 0, ""))
        self.told(state_of(merge), ((0, 0, "a"), 5, [(0, "a"), (1, "ab"), (2, "z")], 3, 4))
        # ab is alike with a farther than b, then farther than z: no look.
        self.told(merge.take(), (0, 0, "a"))
        self.told(state_of(merge), ((1, 0, "ab"), 4, [(0, "b"), (1, "ab"), (2, "z")], 5, 4))
        # b and b from 0 on, both ends looked at: two; b and z: one.
        self.told(merge.take(), (1, 0, "ab"))
        self.told(state_of(merge), ((0, 1, "b"), 3, [(0, "b"), (1, "b"), (2, "z")], 7, 7))
        # Row 0 sends nothing, so only row 1's b, alike for one sign, meets z.
        self.told(merge.take(), (0, 1, "b"))
        self.told(state_of(merge), ((1, 1, "b"), 2, [(0, None), (1, "b"), (2, "z")], 8, 7))
        self.told(merge.take(), (1, 1, "b"))
        self.told(state_of(merge), ((2, 1, "z"), 1, [(0, None), (1, None), (2, "z")], 8, 7))
        self.told(merge.take(), (2, 1, "z"))
        self.told(state_of(merge), (None, 0, [(0, None), (1, None), (2, None)], 8, 7))
        self.told(merge.take(), None)
        self.told(state_of(merge), (None, 0, [(0, None), (1, None), (2, None)], 8, 7))

    def test_known_signs_are_not_looked_at_again(self):
        merge = Merge([["abcd", "abce"], ["abcf", "abd"]])
        self.told((merge.likenings(), merge.looks()), (1, 4))
        # abce and abcf are both alike for three signs with abcd: one look, at place 3.
        merge.take()
        self.told((merge.coming(), merge.likenings(), merge.looks()), ((0, 1, "abce"), 2, 5))
        merge.take_few(2)
        self.told((merge.coming(), merge.likenings(), merge.looks()), ((1, 1, "abd"), 2, 5))

    def test_a_loser_of_a_lower_match_keeps_how_far_it_is_alike(self):
        merge = Merge([["aa", "z"], ["ab"], ["aab"]])
        self.told((merge.likenings(), merge.looks()), (2, 2 + 3))
        # z loses to ab without a look; ab, alike for one sign, loses to aab, alike for two, without one.
        merge.take()
        self.told((merge.coming(), merge.likenings(), merge.looks()), ((2, 0, "aab"), 4, 5))

    def test_no_rows(self):
        merge = Merge([])
        self.told(state_of(merge), (None, 0, [], 0, 0))
        self.told(merge.take(), None)
        self.told(merge.take_few(3), [])
        self.told(state_of(merge), (None, 0, [], 0, 0))

    def test_one_row_costs_nothing(self):
        for row in small_rows(["", "a", "b"], 3):
            merge = Merge([row])
            self.told(merge.take_few(9), [(0, place, key) for place, key in enumerate(row)])
            self.told(state_of(merge), (None, 0, [(0, None)], 0, 0))

    def test_empty_rows(self):
        for many in (1, 2, 3, 16):
            self.told(state_of(Merge([[]] * many)), (None, 0, [(at, None) for at in range(many)], 0, 0))
        merge = Merge([[], ["a", "b"], [], []])
        self.told(state_of(merge), ((1, 0, "a"), 2, [(0, None), (1, "a"), (2, None), (3, None)], 0, 0))
        self.told(merge.take_few(5), [(1, 0, "a"), (1, 1, "b")])
        self.told((merge.likenings(), merge.looks()), (0, 0))

    def test_like_keys_by_row_then_place(self):
        merge = Merge([["k", "k"], ["k"], ["", "k", "k"]])
        self.told(merge.take_few(9),
                  [(2, 0, ""), (0, 0, "k"), (0, 1, "k"), (1, 0, "k"), (2, 1, "k"), (2, 2, "k")])

    def test_the_empty_key(self):
        merge = Merge([["", ""], ["", "a"]])
        self.told((merge.coming(), merge.likenings(), merge.looks()), ((0, 0, ""), 1, 1))
        self.told(merge.take_few(9), [(0, 0, ""), (0, 1, ""), (1, 0, ""), (1, 1, "a")])
        self.told((merge.likenings(), merge.looks()), (2, 2))

    def test_two_small_rows(self):
        rows = small_rows(["", "a", "ab", "b"], 3)
        for pair in itertools.product(rows, repeat=2):
            self.same_to_the_end(list(pair))

    def test_three_small_rows(self):
        for three in itertools.product(small_rows(["", "a", "aa"], 2), repeat=3):
            self.same_to_the_end(list(three))

    def test_five_small_rows(self):
        for five in itertools.product([[], ["a"], ["", "ab"]], repeat=5):
            self.same_to_the_end(list(five))

    def test_rows_of_all_sizes(self):
        for rows in some_merges():
            self.same_to_the_end(rows)

    def test_somewhat_beyond_the_bounds_nothing_is_refused(self):
        for many in (17, 20):
            self.same_to_the_end([["a" * at, "b" * 45] for at in range(many)])
        self.same_to_the_end([["a"] * 65, ["a"] * 70])


class AskedTest(MergeCase):
    def test_take_few(self):
        for rows in some_merges():
            for many in (0, 1, 2, 7, 10 ** 6):
                merge, played = Merge(rows), Played(rows)
                for time in range(4):
                    self.told(merge.take_few(many), played.take_few(min(many, 1000)))
                    self.told(state_of(merge), played.state())

    def test_take_few_of_none_changes_nothing(self):
        merge = Merge(ROWS)
        ahead = state_of(merge)
        self.told(merge.take_few(0), [])
        self.told(state_of(merge), ahead)

    def test_take_few_tells_what_take_tells(self):
        wanted = [(2, 0, ""), (0, 0, "a"), (1, 0, "ab"), (0, 1, "b"), (1, 1, "b"), (2, 1, "z")]
        for many in range(8):
            merge = Merge(ROWS)
            self.told(merge.take_few(many), wanted[:many])
            self.told(merge.take_few(100), wanted[many:])
            self.told(merge.take_few(100), [])

    def test_asking_costs_nothing_and_is_told_the_same(self):
        for rows in some_merges():
            merge = Merge(rows)
            for time in range(5):
                cost = (merge.likenings(), merge.looks())
                first = state_of(merge)
                self.told(state_of(merge), first)
                self.told((merge.likenings(), merge.looks()), cost)
                merge.take()

    def test_told_lists_are_the_askers_own(self):
        merge, other = Merge(ROWS), Merge(ROWS)
        for time in range(7):
            heads = merge.heads()
            self.own(heads, merge.heads())
            spoil(heads)
            self.told(state_of(merge), state_of(other))
            few = merge.take_few(1)
            spoil(few)
            other.take()
            self.told(state_of(merge), state_of(other))

    def test_told_lists_stay_as_they_are(self):
        merge = Merge(ROWS)
        heads, few = merge.heads(), merge.take_few(2)
        merge.take_few(3)
        merge.grow(0, ["x"])
        merge.drop_row(1)
        self.told(heads, [(0, "a"), (1, "ab"), (2, "")])
        self.told(few, [(2, 0, ""), (0, 0, "a")])


class MadeTest(MergeCase):
    def test_what_was_handed_in_is_neither_changed_nor_kept(self):
        for rows in some_merges():
            handed = copy.deepcopy(rows)
            merge = Merge(handed)
            played = Played(rows)
            merge.take_few(3)
            played.take_few(3)
            self.told(handed, rows)
            spoil(handed)
            self.told(state_of(merge), played.state())
            self.told(merge.take_few(1000), played.take_few(1000))
            self.told(state_of(merge), played.state())

    def test_one_list_for_several_rows(self):
        row = ["a", "b"]
        merge = Merge([row, row])
        self.told(merge.grow(0, ["c"]), None)
        self.told(row, ["a", "b"])
        self.told(merge.take_few(9), [(0, 0, "a"), (1, 0, "a"), (0, 1, "b"), (1, 1, "b"), (0, 2, "c")])

    def test_two_merges_of_the_same_rows(self):
        one, other = Merge(ROWS), Merge(ROWS)
        one.take_few(4)
        one.drop_row(0)
        self.told(state_of(other), Played(ROWS).state())

    def test_the_first_list_that_is_no_row_is_told(self):
        for rows, row, place in [
                ([["b", "a"]], 0, 1),
                ([["a", ""]], 0, 1),
                ([["a"], ["a", "b", "ab"]], 1, 2),
                ([[], ["a"], ["a", "a", "b", "a", "b", "a"]], 2, 3),
                ([["a", "c", "b"], ["b", "a"]], 0, 2),
                ([["a"], ["a", "b", "a"], ["z"], ["b", "a"]], 1, 2),
                ([["a"]] * 15 + [["aa", "a"]], 15, 1)]:
            ahead = copy.deepcopy(rows)
            with self.assertRaises(MergeError) as caught:
                Merge(rows)
            self.assertIs(caught.exception.__class__, OutOfOrder)
            self.told((caught.exception.row, caught.exception.place), (row, place))
            self.told(rows, ahead)

    def test_breaks_in_small_lists(self):
        lists = [list(keys) for keys in itertools.product(["", "a", "b"], repeat=3)]
        for rows in itertools.product(lists, repeat=2):
            broken = [(number, break_in(keys)) for number, keys in enumerate(rows) if break_in(keys) is not None]
            got = outcome(lambda: Merge(list(rows)).likenings() and None)
            self.told(got, ("OutOfOrder",) + broken[0] if broken else None)


class TwinTest(MergeCase):
    def test_the_same_in_all(self):
        for rows in some_merges():
            merge, played = Merge(rows), Played(rows)
            merge.take_few(2)
            played.take_few(2)
            twin = merge.twin()
            self.assertIsInstance(twin, Merge)
            self.assertIsNot(twin, merge)
            self.told(state_of(twin), played.state())
            self.told(state_of(merge), played.state())
            for time in range(12):
                self.told(twin.take(), played.take())
                self.told(state_of(twin), played.state())

    def test_each_deed_touches_one_alone(self):
        deeds = [
            lambda merge: merge.take(),
            lambda merge: merge.take_few(4),
            lambda merge: merge.take_few(100),
            lambda merge: merge.add_row(["a", "k"]),
            lambda merge: merge.drop_row(1),
            lambda merge: merge.grow(0, ["y"]),
            lambda merge: merge.grow(2, ["zz", "zz"]),
        ]
        for before in range(8):
            for deed in deeds:
                for twin_does in (False, True):
                    merge, played = Merge(ROWS), Played(ROWS)
                    merge.take_few(before)
                    played.take_few(before)
                    twin = merge.twin()
                    doer, other = (twin, merge) if twin_does else (merge, twin)
                    done = copy.deepcopy(played)
                    self.told(deed(doer), deed(done))
                    self.told(state_of(other), played.state())
                    self.told(state_of(doer), done.state())
                    self.told(other.take_few(100), played.take_few(100))
                    self.told(state_of(other), played.state())
                    self.told(doer.take_few(100), done.take_few(100))
                    self.told(state_of(doer), done.state())

    def test_the_number_that_comes_next(self):
        merge = Merge(ROWS)
        merge.drop_row(2)
        twin = merge.twin()
        self.told((merge.add_row([]), twin.add_row([]), twin.add_row([]), merge.add_row([])), (3, 3, 4, 4))

    def test_a_twin_of_a_twin(self):
        merge = Merge(ROWS)
        merge.take()
        twin = merge.twin()
        third = twin.twin()
        ahead = state_of(merge)
        third.take_few(2)
        third.drop_row(0)
        self.told((state_of(merge), state_of(twin)), (ahead, ahead))
        twin.grow(1, ["c"])
        self.told(state_of(merge), ahead)
        self.told(third.heads(), [(1, "b"), (2, "z")])
        merge.take_few(100)
        self.told(twin.take_few(2), [(0, 0, "a"), (1, 0, "ab")])
        self.told(third.take_few(9), [(1, 1, "b"), (2, 1, "z")])

    def test_twins_of_no_rows(self):
        merge = Merge([])
        twin = merge.twin()
        self.told(state_of(twin), (None, 0, [], 0, 0))
        self.told(twin.add_row(["a"]), 0)
        self.told(state_of(merge), (None, 0, [], 0, 0))
