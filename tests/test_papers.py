"""Point [10], its part on making papers."""

import itertools
import random

from mergetree.merge import Merge
from mergetree.papercheck import shows_next, signs_in
from mergetree.papers import next_of, paper_of
from tests.helper import Case, alike_signs, is_paper, outcome, some_row

HEADS = [(0, "abd"), (2, "abc"), (3, None), (5, "b"), (6, "abc"), (9, "abcz")]


def small_heads():
    """All heads of up to four rows of few keys, their numbers with gaps."""
    for many in range(5):
        for keys in itertools.product((None, "", "a", "ab", "b"), repeat=many):
            yield list(zip((0, 1, 4, 7), keys))


def merge_heads():
    """Heads that Merges tell, behind their making and behind each deed, with what is coming."""
    source = random.Random(10)
    for time in range(150):
        signs = source.choice(("a", "ab", "abc"))
        merge = Merge([some_row(source, 5, signs) for row in range(source.randint(0, 16))])
        yield merge.heads(), merge.coming()
        while merge.coming():
            deed = source.randint(0, 9)
            if deed == 0:
                outcome(merge.add_row, some_row(source, 3, signs))
            elif deed == 1:
                outcome(merge.drop_row, source.randint(0, 16))
            elif deed == 2:
                outcome(merge.grow, source.randint(0, 16), [signs[-1] * 4])
            merge.take()
            yield merge.heads(), merge.coming()


def spoilt(paper, rows):
    """The paper changed at each entry in turn."""
    for at, (row, winner, far) in enumerate(paper):
        yield paper[:at] + paper[at + 1:]
        yield paper[:at] + [paper[at]] + paper[at:]
        yield paper + [paper[at]]
        others = [(row, winner, far + 1), (row, winner, far - 1)]
        others += [(row, other, far) for other in rows if other != winner]
        others += [(other, winner, far) for other in rows if other != row]
        for other in others:
            yield paper[:at] + [other] + paper[at + 1:]
        if at > 0:
            yield paper[:at - 1] + [paper[at], paper[at - 1]] + paper[at + 1:]


class NextOfTest(Case):
    def test_no_key(self):
        self.told(next_of([]), None)
        self.told(next_of([(0, None)]), None)
        self.told(next_of([(0, None), (3, None), (40, None)]), None)

    def test_the_least_key(self):
        self.told(next_of([(0, "b"), (1, "a")]), 1)
        self.told(next_of([(0, "ab"), (1, "a"), (2, "b")]), 1)
        self.told(next_of([(3, "b"), (5, None), (8, "ab"), (9, "ac")]), 8)
        self.told(next_of([(0, None), (39, "zz")]), 39)

    def test_like_keys_the_least_row(self):
        self.told(next_of(HEADS), 2)
        for key in ("", "a", "z" * 40):
            self.told(next_of([(1, key), (2, key), (3, key)]), 1)
            self.told(next_of([(0, None), (1, key + "a"), (2, key), (10, key)]), 2)

    def test_the_empty_key(self):
        self.told(next_of([(0, "")]), 0)
        self.told(next_of([(0, "a"), (1, ""), (2, "")]), 1)
        self.told(next_of([(0, None), (1, "")]), 1)

    def test_all_small_heads(self):
        for heads in small_heads():
            keyed = [(key, row) for row, key in heads if key is not None]
            self.told(next_of(heads), min(keyed)[1] if keyed else None)

    def test_as_a_merge_goes_on(self):
        for heads, coming in merge_heads():
            self.told(next_of(heads), coming[0] if coming else None)

    def test_nothing_is_changed(self):
        for heads in ([], [(0, None)], HEADS):
            self.keeps(next_of, heads)


class PaperOfTest(Case):
    def test_none_where_no_row_or_one_has_a_key(self):
        for heads in ([], [(0, None)], [(0, None), (4, None)]):
            self.told(paper_of(heads), [])
        for key in ("", "a", "k" * 40):
            for heads in ([(0, key)], [(0, None), (2, key)], [(1, key), (2, None), (3, None)]):
                self.told(paper_of(heads), [])

    def shown(self, heads):
        n, paper = next_of(heads), paper_of(heads)
        self.assertIsInstance(paper, list)
        self.told(shows_next(heads, n, paper), True)
        self.assertTrue(is_paper(heads, n, paper), (heads, paper))
        keyed = [row for row, key in heads if key is not None]
        self.told(sorted(row for row, winner, far in paper), [row for row in keyed if row != n])
        for entry in paper:
            self.assertEqual([part.__class__ for part in entry], [int, int, int])
        return paper

    def test_all_small_heads(self):
        for heads in small_heads():
            self.shown(heads)

    def test_as_a_merge_goes_on(self):
        for heads, coming in merge_heads():
            self.shown(heads)

    def test_sixteen_rows_of_long_keys(self):
        for keys in (["k" * 40] * 16, ["k" * (40 - row) for row in range(16)], ["k" * row for row in range(16)]):
            heads = list(enumerate(keys))
            paper = self.shown(heads)
            self.told(signs_in(paper), sum(far + 1 for row, winner, far in paper))

    def test_no_row_but_the_next_one_is_shown(self):
        for heads in small_heads():
            for n in [None, -1, 2, 3, 9] + [row for row, key in heads]:
                self.told(shows_next(heads, n, paper_of(heads)), n == next_of(heads))

    def test_far_is_how_far_both_keys_are_alike(self):
        keys = dict(HEADS)
        for row, winner, far in paper_of(HEADS):
            self.told(far, alike_signs(keys[row], keys[winner]))

    def test_spoilt_at_each_entry(self):
        everything = itertools.chain(small_heads(), [HEADS], [heads for heads, coming in merge_heads()][::40])
        taken = refused = 0
        for heads in everything:
            n, rows = next_of(heads), [row for row, key in heads] + [-1, 99]
            for changed in spoilt(paper_of(heads), rows):
                wanted = is_paper(heads, n, changed)
                self.assertIs(shows_next(heads, n, changed), wanted, (heads, n, changed))
                taken, refused = taken + wanted, refused + (not wanted)
        self.assertGreater(min(taken, refused), 100)

    def test_the_told_paper_is_the_askers_own(self):
        for heads in ([], [(0, None)], [(0, "a")], HEADS, [(0, "a"), (1, "a")]):
            self.keeps(paper_of, heads)
        for heads in small_heads():
            first = paper_of(heads)
            kept = list(first)
            first.append((0, 0, 0))
            first.reverse()
            self.told(paper_of(heads), kept)

    def test_a_merge_is_left_as_it_is(self):
        merge = Merge([["a", "c"], ["b"], []])
        heads = merge.heads()
        counted = (merge.likenings(), merge.looks())
        paper_of(heads).clear()
        next_of(heads)
        self.told((merge.likenings(), merge.looks()), counted)
        self.told(merge.heads(), [(0, "a"), (1, "b"), (2, None)])
        self.told(merge.take_few(9), [(0, 0, "a"), (1, 0, "b"), (0, 1, "c")])
