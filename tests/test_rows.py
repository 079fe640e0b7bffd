"""Point [4]: rows."""

import os.path

from mergetree.rows import alikes, first_break, is_row, two_merged
from tests.helper import OTHER_KINDS, Case, nested, small_keys, small_lists, small_rows

ROWS = [
    [],
    [""],
    ["", ""],
    ["", "a"],
    ["a"],
    ["a", "a", "a"],
    ["a", "aa", "aaa", "b"],
    ["ab", "abc", "abd", "b", "b", "ba"],
    ["", "", "m", "m", "zz", "zz", "zzz"],
]

# A list, and the place of its first break.
BROKEN = [
    (["b", "a"], 1),
    (["a", ""], 1),
    (["aa", "a"], 1),
    (["", "a", ""], 2),
    (["a", "c", "b", "d"], 2),
    (["a", "b", "c", "bz"], 3),
    (["c", "b", "a"], 1),
    (["a", "c", "b", "b", "a"], 2),
    (["a", "b", "a", "b", "a"], 2),
    (["b", "b", "b", "abc", "z", "y"], 3),
]


def long_row():
    """Sixty keys, ten of each letter, growing by a sign each."""
    return [letter * (at + 1) for letter in "abcdef" for at in range(10)]


def wanted_merge(one, other):
    """What two_merged is to tell, by Python's own sort of (key, row, place)."""
    things = [(key, 0, at) for at, key in enumerate(one)] + [(key, 1, at) for at, key in enumerate(other)]
    return [(row, at) for key, row, at in sorted(things)]


class IsRowTest(Case):
    def test_lists_in_order(self):
        for row in ROWS + [long_row(), long_row() + ["g"], ["z" * 41]]:
            self.assertIs(is_row(row), True, row)

    def test_a_key_less_than_the_one_ahead(self):
        for keys, place in BROKEN:
            self.assertIs(is_row(keys), False, keys)

    def test_one_key_less_at_each_place(self):
        for place in range(1, 60):
            keys = long_row()
            keys[place] = ""
            self.assertIs(is_row(keys), False, place)

    def test_all_small_lists(self):
        for keys in small_lists(small_keys("ab", 2), 3):
            self.assertIs(is_row(keys), keys == sorted(keys), keys)

    def test_tuples_are_no_rows(self):
        for row in ROWS:
            self.assertIs(is_row(tuple(row)), False, row)

    def test_another_thing_in_a_keys_place(self):
        for thing in OTHER_KINDS + ["A", "a b", "-", "a1", "b\n", " "]:
            for row in ROWS:
                for place in range(len(row) + 1):
                    keys = row[:place] + [thing] + row[place:]
                    self.assertIs(is_row(keys), False, repr(keys))
                    keys = row[:place] + [thing] + row[place + 1:]
                    self.assertIs(is_row(keys), False, repr(keys))

    def test_two_other_things_beside_one_another(self):
        for one in OTHER_KINDS:
            for other in OTHER_KINDS:
                self.assertIs(is_row([one, other]), False, repr((one, other)))

    def test_other_kinds(self):
        rows = [[], ["a"], ["a", "b"]]
        for thing in OTHER_KINDS + ["", "a", "abc"]:
            self.assertIs(is_row(thing), thing in rows, repr(thing))

    def test_nested_twenty_deep(self):
        for kind in (list, tuple):
            for depth in (2, 3, 19, 20):
                self.told(is_row(nested(depth, "a", kind)), False)

    def test_nothing_is_changed(self):
        for row in ROWS:
            self.keeps(is_row, list(row))
        for keys, place in BROKEN:
            self.keeps(is_row, list(keys))


class FirstBreakTest(Case):
    def test_none_in_a_row(self):
        for row in ROWS + [long_row()]:
            self.told(first_break(row), None)

    def test_the_first_of_several(self):
        for keys, place in BROKEN:
            self.assertEqual(repr(first_break(keys)), repr(place), keys)

    def test_a_break_at_each_place(self):
        for place in range(1, 60):
            keys = long_row()
            keys[place] = ""
            self.told(first_break(keys), place)

    def test_all_small_lists(self):
        for keys in small_lists(small_keys("ab", 2), 3):
            breaks = [at for at in range(1, len(keys)) if keys[at] < keys[at - 1]]
            self.told(first_break(keys), breaks[0] if breaks else None)

    def test_nothing_is_changed(self):
        for keys in ROWS + [keys for keys, place in BROKEN]:
            self.keeps(first_break, list(keys))


class AlikesTest(Case):
    def test_plain_rows(self):
        self.told(alikes([]), [])
        self.told(alikes([""]), [0])
        self.told(alikes(["abc"]), [0])
        self.told(alikes(["", "", "a"]), [0, 0, 0])
        self.told(alikes(["a", "a", "aa"]), [0, 1, 1])
        self.told(alikes(["abc", "abcd", "abd", "abd", "b", "bcd"]), [0, 3, 2, 3, 0, 1])

    def test_all_small_rows(self):
        for row in small_rows(small_keys("ab", 3), 3):
            wanted = [0] * min(len(row), 1)
            for at in range(1, len(row)):
                wanted.append(len(os.path.commonprefix(row[at - 1:at + 1])))
            self.told(alikes(row), wanted)

    def test_a_long_row(self):
        self.told(alikes(long_row()), list(range(10)) * 6)
        self.told(alikes(["k" * 40] * 60), [0] + [40] * 59)

    def test_the_told_list_is_the_askers_own(self):
        for row in ROWS:
            self.keeps(alikes, list(row))


class TwoMergedTest(Case):
    def test_plain_rows(self):
        self.told(two_merged(["a", "c"], ["b", "d"]), [(0, 0), (1, 0), (0, 1), (1, 1)])
        self.told(two_merged(["c", "d"], ["a", "b"]), [(1, 0), (1, 1), (0, 0), (0, 1)])
        self.told(two_merged(["ab"], ["a", "abc"]), [(1, 0), (0, 0), (1, 1)])

    def test_like_keys_of_the_first_row_ahead(self):
        self.told(two_merged(["a"], ["a"]), [(0, 0), (1, 0)])
        self.told(two_merged(["a", "a", "b"], ["a", "b", "b"]),
                  [(0, 0), (0, 1), (1, 0), (0, 2), (1, 1), (1, 2)])
        self.told(two_merged(["", "b"], ["", "", "b"]), [(0, 0), (1, 0), (1, 1), (0, 1), (1, 2)])

    def test_empty_rows(self):
        self.told(two_merged([], []), [])
        self.told(two_merged(["a", "b"], []), [(0, 0), (0, 1)])
        self.told(two_merged([], ["a", "b"]), [(1, 0), (1, 1)])

    def test_a_row_with_itself(self):
        row = ["a", "b", "b", "c"]
        self.told(two_merged(row, row),
                  [(0, 0), (1, 0), (0, 1), (0, 2), (1, 1), (1, 2), (0, 3), (1, 3)])
        self.told(row, ["a", "b", "b", "c"])
        for row in ROWS + [long_row()]:
            self.told(two_merged(row, row), wanted_merge(row, row))

    def test_all_small_rows(self):
        rows = small_rows(["", "a", "ab", "b"], 3)
        for one in rows:
            for other in rows:
                self.told(two_merged(one, other), wanted_merge(one, other))

    def test_long_rows(self):
        one, other = long_row(), sorted(["ab", "bbb", "c", "fz"] * 15)
        self.told(two_merged(one, other), wanted_merge(one, other))
        self.told(two_merged(other, one), wanted_merge(other, one))

    def test_the_told_list_is_the_askers_own(self):
        for one in ROWS:
            for other in ROWS:
                self.keeps(two_merged, list(one), list(other))

    def test_a_told_row_of_keys_may_be_handed_in_again(self):
        rows = (["a", "c", "c"], ["b", "c", "d"])
        keys = [rows[row][place] for row, place in two_merged(*rows)]
        self.told(keys, ["a", "b", "c", "c", "c", "d"])
        self.told(is_row(keys), True)
        self.told(two_merged(keys, []), [(0, at) for at in range(6)])
