"""Point [10], its part on the checker of papers."""

import itertools
import random

from mergetree.merge import Merge
from mergetree.papercheck import shows_next, signs_in
from tests.helper import OTHER_KINDS, Case, alike_signs, is_paper, nested, small_keys

HEADS = [(0, "abd"), (2, "abc"), (3, None), (5, "b"), (6, "abc"), (9, "abcz")]
# By the least row alone.
BY_LEAST = [(0, 2, 2), (5, 2, 0), (6, 2, 3), (9, 2, 3)]
# Each by the row just less.
BY_NEAREST = [(6, 2, 3), (9, 6, 3), (0, 9, 2), (5, 0, 0)]


def paper_by(heads, rank):
    """A right paper: the rows by (key, row), each won by one that rank picks of those ahead."""
    keyed = sorted((key, row) for row, key in heads if key is not None)
    paper = []
    for at in range(1, len(keyed)):
        less, winner = keyed[rank(at)]
        paper.append((keyed[at][1], winner, alike_signs(keyed[at][0], less)))
    return keyed[0][1], paper


class ShowsNextTest(Case):
    def test_right_papers(self):
        self.told(shows_next(HEADS, 2, BY_LEAST), True)
        self.told(shows_next(HEADS, 2, BY_NEAREST), True)
        self.told(shows_next([(0, "a"), (1, "b")], 0, [(1, 0, 0)]), True)
        self.told(shows_next([(0, "b"), (1, "a")], 1, [(0, 1, 0)]), True)
        self.told(shows_next([(0, "ab"), (1, "a")], 1, [(0, 1, 1)]), True)
        self.told(shows_next([(0, "a"), (1, "")], 1, [(0, 1, 0)]), True)

    def test_a_single_key(self):
        for heads in ([(0, "a")], [(0, "")], [(0, "a"), (1, None)]):
            self.told(shows_next(heads, 0, []), True)
            self.told(shows_next(heads, None, []), False)
            self.told(shows_next(heads, 1, []), False)
            self.told(shows_next(heads, 0, [(0, 0, 0)]), False)
            self.told(shows_next(heads, 0, [(1, 0, 0)]), False)

    def test_no_keys(self):
        for heads in ([], [(0, None)], [(0, None), (7, None)]):
            self.told(shows_next(heads, None, []), True)
            for n in (0, 7, -1, 1):
                self.told(shows_next(heads, n, []), False)
            for thing in [each for each in OTHER_KINDS if each != []] + [[(0, 0, 0)], [(0, None, 0)], "", "a", 0, ()]:
                self.told(shows_next(heads, None, thing), False)

    def test_none_where_a_row_has_a_key(self):
        for heads in (HEADS, [(0, "")], [(0, None), (1, "a")]):
            for thing in ([], BY_LEAST, BY_NEAREST, None, ()):
                self.told(shows_next(heads, None, thing), False)

    def test_for_another_row(self):
        for paper in (BY_LEAST, BY_NEAREST, []):
            for n in (0, 1, 3, 4, 5, 6, 9, 10, -1, 10 ** 20):
                self.told(shows_next(HEADS, n, paper), False)
        # All but the like key of row 2 is shown for row 6.
        self.told(shows_next(HEADS, 6, [(0, 6, 2), (2, 6, 3), (5, 6, 0), (9, 6, 3)]), False)

    def test_like_keys_and_the_lesser_number(self):
        for key in ("", "a", "abc"):
            heads = [(1, key), (4, key)]
            self.told(shows_next(heads, 1, [(4, 1, len(key))]), True)
            self.told(shows_next(heads, 4, [(1, 4, len(key))]), False)
            three = heads + [(5, key)]
            self.told(shows_next(three, 1, [(5, 1, len(key)), (4, 1, len(key))]), True)
            self.told(shows_next(three, 1, [(4, 1, len(key)), (5, 4, len(key))]), True)
            self.told(shows_next(three, 1, [(5, 1, len(key)), (4, 5, len(key))]), False)

    def test_an_entry_left_out(self):
        for paper in (BY_LEAST, BY_NEAREST):
            for at in range(4):
                self.told(shows_next(HEADS, 2, paper[:at] + paper[at + 1:]), False)

    def test_an_entry_twice(self):
        for paper in (BY_LEAST, BY_NEAREST):
            for at in range(4):
                for to in range(5):
                    self.told(shows_next(HEADS, 2, paper[:to] + [paper[at]] + paper[to:]), False)

    def test_an_entry_twice_for_one_left_out(self):
        for paper in (BY_LEAST, BY_NEAREST):
            for at in range(4):
                for other in range(4):
                    changed = list(paper)
                    changed[other] = paper[at]
                    self.told(shows_next(HEADS, 2, changed), at == other)

    def test_entries_at_other_places(self):
        for changed in itertools.permutations(BY_LEAST):
            self.told(shows_next(HEADS, 2, list(changed)), True)
        for changed in itertools.permutations(BY_NEAREST):
            self.told(shows_next(HEADS, 2, list(changed)), list(changed) == BY_NEAREST)

    def test_another_far(self):
        for paper in (BY_LEAST, BY_NEAREST):
            for at, (row, winner, far) in enumerate(paper):
                for other in (far - 1, far + 1, far - 2, -1, -3, -4, 10 ** 20, -10 ** 20):
                    changed = paper[:at] + [(row, winner, other)] + paper[at + 1:]
                    self.assertIs(shows_next(HEADS, 2, changed), other == far, changed)

    def test_another_winner(self):
        for paper in (BY_LEAST, BY_NEAREST):
            for at, (row, winner, far) in enumerate(paper):
                for other in range(-1, 11):
                    changed = paper[:at] + [(row, other, far)] + paper[at + 1:]
                    self.assertIs(shows_next(HEADS, 2, changed), is_paper(HEADS, 2, changed), changed)
                for other in (-1, 1, 3, 4, 7, row, 10 ** 20):
                    changed = paper[:at] + [(row, other, far)] + paper[at + 1:]
                    self.told(shows_next(HEADS, 2, changed), False)

    def test_a_circle_of_winners(self):
        heads = [(0, "a"), (1, "b"), (2, "b")]
        self.told(shows_next(heads, 0, [(1, 2, 1), (2, 1, 1)]), False)
        self.told(shows_next(heads, 0, [(1, 1, 1), (2, 1, 1)]), False)

    def test_the_row_itself_or_one_without_a_key(self):
        for paper in (BY_LEAST, BY_NEAREST):
            for at in range(5):
                for entry in [(2, 2, 3), (2, 6, 3), (3, 2, 0), (3, 3, 0), (4, 2, 0), (1, 2, 0), (-1, 2, 0), (10, 2, 0)]:
                    self.told(shows_next(HEADS, 2, paper[:at] + [entry] + paper[at:]), False)
                    self.told(shows_next(HEADS, 2, paper[:at] + [entry] + paper[at + 1:]), False)

    def test_all_small_papers(self):
        entries = list(itertools.product(range(3), range(3), range(-1, 3)))
        papers = [[]] + [[one] for one in entries]
        papers += [[one, other] for one in entries for other in entries if one[0] != other[0]]
        for keys in [("a", "a", "ab"), ("ab", "", "a"), ("b", "ab", "ab"), ("", "", ""), (None, "a", "a"),
                     ("a", None, ""), ("aa", "a", None), (None, None, None)]:
            heads = list(enumerate(keys))
            for n in (None, 0, 1, 2, 3):
                for paper in papers:
                    self.assertIs(shows_next(heads, n, paper), is_paper(heads, n, paper), (heads, n, paper))

    def test_right_papers_of_many_heads(self):
        source = random.Random(3)
        for time in range(300):
            heads = [(row, source.choice(small_keys("ab", 3) + [None])) for row in sorted(source.sample(range(40), 16))]
            if any(key is not None for row, key in heads):
                for rank in (lambda at: 0, lambda at: at - 1, lambda at: at // 2):
                    n, paper = paper_by(heads, rank)
                    self.told(shows_next(heads, n, paper), True)
                    for other, key in heads:
                        self.assertIs(shows_next(heads, other, paper), other == n, (heads, other, paper))

    def test_heads_as_a_merge_tells_them(self):
        merge = Merge([["a", "b"], ["ab", "b"], ["", "z"]])
        while merge.coming():
            n, paper = paper_by(merge.heads(), lambda at: at - 1)
            self.told(n, merge.coming()[0])
            self.told(shows_next(merge.heads(), n, paper), True)
            merge.take()
        self.told(shows_next(merge.heads(), None, []), True)


class OtherKindsTest(Case):
    def test_for_the_whole(self):
        for heads, n in ((HEADS, 2), ([(0, "a"), (1, "b")], 0)):
            for thing in OTHER_KINDS + ["", "a", tuple(BY_LEAST), [BY_LEAST], [tuple(BY_LEAST)], (BY_LEAST,)]:
                self.assertIs(shows_next(heads, n, thing), False, repr(thing))
        for thing in OTHER_KINDS + ["", "a", ((),), [()], [[]]]:
            self.assertIs(shows_next([(0, "a")], 0, thing), thing == [], repr(thing))

    def test_for_an_entry(self):
        for thing in OTHER_KINDS + ["", "abc", (0, 2), (0, 2, 2, 0), (0, 2, 2, None), ((0, 2, 2),), [(0, 2, 2)]]:
            for paper in (BY_LEAST, BY_NEAREST):
                for at in range(4):
                    changed = paper[:at] + [thing] + paper[at + 1:]
                    self.assertIs(shows_next(HEADS, 2, changed), False, repr(changed))
                for at in range(5):
                    changed = paper[:at] + [thing] + paper[at:]
                    self.assertIs(shows_next(HEADS, 2, changed), False, repr(changed))

    def test_lists_for_tuples(self):
        for paper in (BY_LEAST, BY_NEAREST):
            for at in range(4):
                self.told(shows_next(HEADS, 2, paper[:at] + [list(paper[at])] + paper[at + 1:]), False)
            self.told(shows_next(HEADS, 2, [list(entry) for entry in paper]), False)

    def test_for_a_part_of_an_entry(self):
        for paper in (BY_LEAST, BY_NEAREST):
            for at in range(4):
                for part in range(3):
                    for thing in OTHER_KINDS + ["", "a", "2", (2,), [2]]:
                        entry = list(paper[at])
                        entry[part] = thing
                        changed = paper[:at] + [tuple(entry)] + paper[at + 1:]
                        wanted = thing.__class__ is int and is_paper(HEADS, 2, changed)
                        self.assertIs(shows_next(HEADS, 2, changed), wanted, repr(changed))

    def test_true_and_false_are_no_numbers(self):
        heads = [(0, "a"), (1, "ab")]
        self.told(shows_next(heads, 0, [(1, 0, 1)]), True)
        for entry in [(True, 0, 1), (1, False, 1), (1, 0, True), (True, False, True)]:
            self.told(shows_next(heads, 0, [entry]), False)
        heads = [(0, "b"), (1, "a")]
        self.told(shows_next(heads, 1, [(0, 1, 0)]), True)
        for entry in [(False, 1, 0), (0, True, 0), (0, 1, False)]:
            self.told(shows_next(heads, 1, [entry]), False)

    def test_nested_twenty_deep(self):
        for kind in (list, tuple):
            for depth in (1, 2, 19, 20):
                for core in (0, (0, 2, 2), "", None):
                    thing = nested(depth, core, kind)
                    self.told(shows_next(HEADS, 2, thing), False)
                    self.told(shows_next([], None, thing), False)
                    if depth < 19:
                        self.told(shows_next(HEADS, 2, BY_LEAST[:3] + [thing]), False)
                        self.told(shows_next(HEADS, 2, BY_LEAST[:3] + [(9, 2, thing)]), False)

    def test_nothing_is_changed(self):
        for thing in OTHER_KINDS + [BY_LEAST, BY_NEAREST, BY_LEAST[1:]]:
            self.keeps(shows_next, HEADS, 2, thing)
            self.keeps(shows_next, [], None, thing)


class SignsInTest(Case):
    def test_papers(self):
        self.told(signs_in([]), 0)
        self.told(signs_in([(1, 0, 0)]), 1)
        self.told(signs_in([(1, 0, 7)]), 8)
        self.told(signs_in(BY_LEAST), 3 + 1 + 4 + 4)
        self.told(signs_in(BY_NEAREST), 4 + 4 + 3 + 1)
        self.told(signs_in([(row, 0, 40) for row in range(1, 16)]), 15 * 41)

    def test_nothing_is_changed(self):
        for paper in ([], BY_LEAST, BY_NEAREST):
            self.keeps(signs_in, paper)
