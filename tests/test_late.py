"""Point [8]: rows that come late, go or grow."""

import copy
import random

from mergetree.errors import Full, MergeError, NoRow, OutOfOrder
from mergetree.merge import Merge
from tests.helper import Case, Played, outcome, some_row, spoil, state_of

ROWS = [["a", "b"], ["ab", "b"], ["", "z"]]


def first_play(rows):
    """How many likenings and looks a first play of these rows takes, by the words."""
    played = Played(rows)
    return (played.likenings, played.looks)


class LateCase(Case):
    def refuses(self, merge, error, fields, deed, *handed):
        """The deed is refused so, and neither the merge nor what was handed in is changed."""
        ahead, before = state_of(merge), copy.deepcopy(handed)
        with self.assertRaises(MergeError) as caught:
            getattr(merge, deed)(*handed)
        self.assertIs(caught.exception.__class__, error)
        if error is OutOfOrder:
            self.told((caught.exception.row, caught.exception.place), fields)
        self.told(state_of(merge), ahead)
        self.told(handed, before)

    def costs(self, merge, wanted, deed, *handed):
        """The deed takes so many likenings and looks: tells what it told."""
        ahead = (merge.likenings(), merge.looks())
        told = getattr(merge, deed)(*handed)
        self.told((merge.likenings() - ahead[0], merge.looks() - ahead[1]), wanted)
        return told


class AddRowTest(LateCase):
    def test_numbers_rise_and_none_comes_twice(self):
        merge = Merge([])
        self.told([merge.add_row([]) for time in range(4)], [0, 1, 2, 3])
        merge.drop_row(3)
        self.told(merge.add_row(["a"]), 4)
        merge.drop_row(0)
        self.told(merge.add_row(["a"]), 5)
        for number in (1, 2, 4, 5):
            merge.drop_row(number)
        self.told(merge.heads(), [])
        self.told(merge.add_row(["a"]), 6)
        self.told(merge.heads(), [(6, "a")])

    def test_numbers_go_on_behind_the_rows_at_first(self):
        self.told(Merge(ROWS).add_row([]), 3)
        merge = Merge(ROWS)
        merge.drop_row(2)
        self.told(merge.add_row([]), 3)
        self.told(merge.heads(), [(0, "a"), (1, "ab"), (3, None)])

    def test_forty_rows_over_the_time(self):
        merge = Merge([])
        for number in range(40):
            self.told(merge.add_row(["k"]), number)
            if number >= 10:
                self.told(merge.drop_row(number - 10), 1)
        self.told(merge.heads(), [(number, "k") for number in range(30, 40)])

    def test_it_stands_as_if_it_had_always_been_there(self):
        merge = Merge([["b", "d"]])
        merge.take()
        merge.add_row(["a", "d", "e"])
        self.told(merge.take_few(9), [(1, 0, "a"), (0, 1, "d"), (1, 1, "d"), (1, 2, "e")])

    def test_the_tree_is_played_as_at_first(self):
        for row in ([], [""], ["a"], ["abz"]):
            merge = Merge(ROWS)
            self.told(self.costs(merge, first_play(ROWS + [row]), "add_row", row), 3)
            merge = Merge(ROWS)
            merge.take_few(3)
            rest = [["b"], ["b"], ["z"]]
            self.told(self.costs(merge, first_play(rest + [row]), "add_row", row), 3)
            merge = Merge(ROWS)
            merge.drop_row(1)
            self.costs(merge, first_play([ROWS[0], ROWS[2], row]), "add_row", row)

    def test_the_play_reckoned_by_hand(self):
        merge = Merge([["ab"]])
        # ab and abc: two alike and the end.
        self.told(self.costs(merge, (1, 3), "add_row", ["abc"]), 1)
        # Again ab and abc, then ab and b.
        self.told(self.costs(merge, (2, 3 + 1), "add_row", ["b"]), 2)

    def test_full_at_sixteen(self):
        merge = Merge([["a"]] * 15)
        self.told(merge.add_row(["b"]), 15)
        self.refuses(merge, Full, None, "add_row", ["c"])
        self.refuses(merge, Full, None, "add_row", [])
        merge.take_few(100)
        self.refuses(merge, Full, None, "add_row", ["c"])
        self.told(merge.drop_row(7), 0)
        self.told(merge.add_row(["c"]), 16)
        self.refuses(merge, Full, None, "add_row", ["c"])

    def test_sixteen_at_first_are_full_too(self):
        self.refuses(Merge([[]] * 16), Full, None, "add_row", [])

    def test_out_of_order(self):
        merge = Merge(ROWS)
        self.refuses(merge, OutOfOrder, (3, 1), "add_row", ["b", "a"])
        self.refuses(merge, OutOfOrder, (3, 2), "add_row", ["a", "b", "", "a", ""])
        merge.drop_row(2)
        self.refuses(merge, OutOfOrder, (3, 1), "add_row", ["a", ""])
        self.told(merge.add_row(["a"]), 3)
        self.refuses(merge, OutOfOrder, (4, 1), "add_row", ["a", ""])

    def test_out_of_order_ahead_of_full(self):
        merge = Merge([["a"]] * 16)
        self.refuses(merge, OutOfOrder, (16, 2), "add_row", ["a", "b", "a"])
        self.refuses(merge, Full, None, "add_row", ["a", "b"])

    def test_the_handed_row_is_neither_changed_nor_kept(self):
        merge, row = Merge([["b"]]), ["a", "c"]
        merge.add_row(row)
        merge.take()
        self.told(row, ["a", "c"])
        spoil(row)
        self.told(merge.take_few(9), [(0, 0, "b"), (1, 1, "c")])


class DropRowTest(LateCase):
    def test_how_many_had_not_gone_out(self):
        for number, taken, many in [(0, 0, 2), (0, 2, 1), (0, 4, 0), (2, 0, 2), (2, 1, 1), (2, 6, 0)]:
            merge = Merge(ROWS)
            merge.take_few(taken)
            ahead = merge.left()
            self.told(merge.drop_row(number), many)
            self.told(merge.left(), ahead - many)
            self.told([row for row, key in merge.heads()], [row for row in range(3) if row != number])

    def test_its_things_do_not_come(self):
        merge = Merge(ROWS)
        merge.take()
        merge.drop_row(0)
        self.told(merge.take_few(9), [(1, 0, "ab"), (1, 1, "b"), (2, 1, "z")])

    def test_the_tree_is_played_as_at_first(self):
        for number in range(3):
            rest = [row for at, row in enumerate(ROWS) if at != number]
            self.costs(Merge(ROWS), first_play(rest), "drop_row", number)
        merge = Merge([["abc"], ["abd"], ["abe"]])
        self.told(self.costs(merge, (1, 3), "drop_row", 0), 1)
        self.told(self.costs(merge, (0, 0), "drop_row", 1), 1)
        self.told(self.costs(merge, (0, 0), "drop_row", 2), 1)
        self.told(merge.coming(), None)

    def test_a_row_that_sends_nothing_goes(self):
        merge = Merge([["a"], [], ["b"]])
        self.told(self.costs(merge, (1, 1), "drop_row", 1), 0)
        self.told(merge.heads(), [(0, "a"), (2, "b")])

    def test_all_rows_go(self):
        merge = Merge(ROWS)
        for number in (1, 0, 2):
            merge.drop_row(number)
        self.told((merge.coming(), merge.take(), merge.left(), merge.heads()), (None, None, 0, []))

    def test_no_row(self):
        merge = Merge(ROWS)
        for number in (3, 4, -1, -3, 10 ** 20):
            self.refuses(merge, NoRow, None, "drop_row", number)
        merge.drop_row(1)
        self.refuses(merge, NoRow, None, "drop_row", 1)
        self.refuses(Merge([]), NoRow, None, "drop_row", 0)


class GrowTest(LateCase):
    def test_the_keys_stand_behind_the_rows(self):
        merge = Merge(ROWS)
        self.told(merge.grow(1, ["b", "c"]), None)
        self.told((merge.left(), merge.heads()), (8, [(0, "a"), (1, "ab"), (2, "")]))
        self.told(merge.take_few(9), [(2, 0, ""), (0, 0, "a"), (1, 0, "ab"), (0, 1, "b"), (1, 1, "b"), (1, 2, "b"),
                                      (1, 3, "c"), (2, 1, "z")])

    def test_places_go_on_where_all_have_gone_out(self):
        merge = Merge([["a", "b"]])
        merge.take_few(2)
        self.told(merge.grow(0, ["b", "d"]), None)
        self.told(state_of(merge), ((0, 2, "b"), 2, [(0, "b")], 0, 0))

    def test_a_row_that_sends_costs_nothing(self):
        for number in range(3):
            merge = Merge(ROWS)
            self.costs(merge, (0, 0), "grow", number, ["z", "zz"])
            merge.take_few(3)
            self.costs(merge, (0, 0), "grow", number, ["zz"])

    def test_a_row_that_sent_nothing_has_all_played_as_at_first(self):
        merge = Merge([["a"], ["b"], []])
        self.costs(merge, first_play([["a"], ["b"], ["ab"]]), "grow", 2, ["ab", "c"])
        merge = Merge(ROWS)
        merge.take_few(4)
        self.costs(merge, first_play([["bc"], ["b"], ["z"]]), "grow", 0, ["bc"])
        self.told(merge.take_few(9), [(1, 1, "b"), (0, 2, "bc"), (2, 1, "z")])

    def test_the_play_reckoned_by_hand(self):
        merge = Merge([["a"], ["aab", "aac"]])
        merge.take()
        # aa and aab: two alike, and the end.
        self.told(self.costs(merge, (1, 3), "grow", 0, ["aa"]), None)
        self.told(self.costs(merge, (0, 0), "grow", 0, ["ab"]), None)
        # ab, alike with aa for one sign, loses to aab, alike for two, without a look.
        self.told(self.costs(merge, (1, 0), "take"), (0, 1, "aa"))
        # ab and aac are alike with aab for one sign and for two.
        self.told(self.costs(merge, (1, 0), "take"), (1, 0, "aab"))
        self.told(merge.take_few(9), [(1, 1, "aac"), (0, 2, "ab")])

    def test_by_no_keys(self):
        for taken in range(7):
            merge = Merge(ROWS)
            merge.take_few(taken)
            for number in range(3):
                ahead = state_of(merge)
                self.told(merge.grow(number, []), None)
                self.told(state_of(merge), ahead)
        merge = Merge([[], ["a"], ["b"]])
        ahead = state_of(merge)
        self.told(merge.grow(0, []), None)
        self.told(state_of(merge), ahead)

    def test_no_row(self):
        merge = Merge(ROWS)
        for number in (3, -1, -2, 99):
            for keys in ([], ["a"], ["b", "a"]):
                self.refuses(merge, NoRow, None, "grow", number, keys)
        merge.drop_row(0)
        self.refuses(merge, NoRow, None, "grow", 0, ["z"])
        self.refuses(merge, NoRow, None, "grow", 0, ["z", "y"])

    def test_out_of_order_at_the_first_key(self):
        merge = Merge([["a", "b"], []])
        self.refuses(merge, OutOfOrder, (0, 2), "grow", 0, ["a"])
        self.refuses(merge, OutOfOrder, (0, 2), "grow", 0, ["a", "c", "b"])
        self.refuses(merge, OutOfOrder, (0, 2), "grow", 0, [""])
        merge.take_few(2)
        self.refuses(merge, OutOfOrder, (0, 2), "grow", 0, ["az"])

    def test_out_of_order_farther_on(self):
        merge = Merge([["a", "b"], []])
        self.refuses(merge, OutOfOrder, (0, 3), "grow", 0, ["c", "b"])
        self.refuses(merge, OutOfOrder, (0, 5), "grow", 0, ["b", "b", "c", "bz", "a"])
        self.refuses(merge, OutOfOrder, (1, 1), "grow", 1, ["c", "b"])
        self.refuses(merge, OutOfOrder, (1, 2), "grow", 1, ["", "c", "b"])
        merge.take_few(2)
        self.refuses(merge, OutOfOrder, (0, 3), "grow", 0, ["b", ""])

    def test_out_of_order_in_what_has_grown(self):
        merge = Merge([["a"]])
        merge.grow(0, ["b"])
        merge.grow(0, ["c"])
        self.refuses(merge, OutOfOrder, (0, 3), "grow", 0, ["b"])
        merge.take_few(3)
        merge.grow(0, ["d"])
        self.refuses(merge, OutOfOrder, (0, 4), "grow", 0, ["c"])
        self.refuses(merge, OutOfOrder, (0, 6), "grow", 0, ["d", "e", "d"])

    def test_rows_grow_beyond_sixty(self):
        merge = Merge([["a"] * 60, ["b"]])
        for time in range(3):
            self.told(merge.grow(0, ["a"] * 60), None)
        self.told(merge.left(), 241)
        self.told(merge.take_few(1000), [(0, place, "a") for place in range(240)] + [(1, 0, "b")])

    def test_the_handed_keys_are_neither_changed_nor_kept(self):
        for taken in (0, 1):
            merge, keys = Merge([["a"]]), ["b", "c"]
            merge.take_few(taken)
            merge.grow(0, keys)
            self.told(keys, ["b", "c"])
            spoil(keys)
            merge.take_few(2 - taken)
            self.told(merge.take_few(9), [(0, 2, "c")])

    def test_the_row_handed_in_at_first_does_not_grow(self):
        row, late = ["a"], ["a"]
        merge = Merge([row])
        merge.add_row(late)
        merge.grow(0, row)
        merge.grow(1, late)
        self.told((row, late), (["a"], ["a"]))
        self.told(merge.left(), 4)


class AllDeedsTest(LateCase):
    def deed(self, source, numbers):
        """A deed and what it is handed."""
        pick = source.random()
        some = source.choice(numbers + [-1, 99])
        if pick < 0.35:
            return ("take",)
        if pick < 0.45:
            return ("take_few", source.choice((0, 1, 3, 8)))
        keys = some_row(source, 4, "abc", 3)
        if source.random() < 0.1:
            source.shuffle(keys)
        if pick < 0.6:
            return ("add_row", keys)
        if pick < 0.68:
            return ("drop_row", some)
        # Behind a key of z's a row can always grow.
        return ("grow", some, source.choice(([], keys, ["zz"], ["zz", "zzz"])))

    def test_many_deeds_as_by_the_words(self):
        source = random.Random(11)
        seen = set()
        for time in range(250):
            rows = [some_row(source, 4, "abc", 3) for row in range(source.choice((0, 1, 3, 7, 14, 16)))]
            pairs = [(Merge(rows), Played(rows))]
            for step in range(40):
                merge, played = source.choice(pairs)
                name, *handed = self.deed(source, sorted(played.rows))
                ahead = copy.deepcopy(handed)
                told = outcome(getattr(merge, name), *handed)
                self.told(told, getattr(played, name)(*ahead))
                self.told(handed, ahead)
                seen.add((name, told[0] if isinstance(told, tuple) and isinstance(told[0], str) else "told"))
                spoil(handed)
                for one, by_words in pairs:
                    self.told(state_of(one), by_words.state())
                if len(pairs) < 3 and source.random() < 0.05:
                    pairs.append((merge.twin(), copy.deepcopy(played)))
            for merge, played in pairs:
                rest = sorted((key, row, place) for row, keys in played.rows.items()
                              for place, key in enumerate(keys) if place >= played.gone[row])
                self.told(merge.take_few(10 ** 6), [(row, place, key) for key, row, place in rest])
                played.take_few(1000)
                self.told(state_of(merge), played.state())
        # The run is worth something only where each deed was done and refused in each way.
        self.assertEqual(seen, {
            ("take", "told"), ("take_few", "told"), ("add_row", "told"), ("add_row", "OutOfOrder"),
            ("add_row", "Full"), ("drop_row", "told"), ("drop_row", "NoRow"), ("grow", "told"),
            ("grow", "NoRow"), ("grow", "OutOfOrder")})
