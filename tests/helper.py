"""What the tests share: answers told apart by kind too, small things, things of other kinds, the words played."""

import copy
import itertools
import os.path
import unittest

from mergetree.errors import Full, NoRow, OutOfOrder

OTHER_KINDS = [
    True, False, None, 0, 1, -1, 7, 10 ** 30,
    [], ["a"], ["a", "b"], [[]], [["a"]], [["a"], ["b"]], [None], [True], [0],
    (), ("a",), ("a", "b"), ((),), (("a",),), (None,), (["a"], ("b", [])), [("a", 0, None)],
]


def nested(depth, core, kind):
    """A thing with core so many lists or tuples deep."""
    for step in range(depth):
        core = kind([core])
    return core


def small_keys(signs, most):
    """All keys of these signs with at most so many of them."""
    return ["".join(word) for many in range(most + 1) for word in itertools.product(signs, repeat=many)]


def small_lists(keys, most):
    """All lists of these keys with at most so many of them."""
    return [list(some) for many in range(most + 1) for some in itertools.product(keys, repeat=many)]


def small_rows(keys, most):
    """All rows of these keys with at most so many of them."""
    return [some for some in small_lists(keys, most) if some == sorted(some)]


def lists_in(thing):
    """All lists within a thing, itself too."""
    found = [thing] if isinstance(thing, list) else []
    if isinstance(thing, (list, tuple)):
        for part in thing:
            found += lists_in(part)
    return found


def spoil(thing):
    """Changes all lists within a thing."""
    for each in lists_in(thing):
        each.reverse()
        each.append("changed")


class Case(unittest.TestCase):
    def told(self, got, wanted):
        """An answer is the wanted one, also in its kinds: True is not 1, a tuple no list."""
        self.assertEqual(repr(got), repr(wanted))

    def own(self, *things):
        """No list within these things is one and the same as another one."""
        found = [id(each) for thing in things for each in lists_in(thing)]
        self.assertEqual(len(set(found)), len(found), things)

    def keeps(self, ask, *handed):
        """Asking twice tells the same, changes nothing handed in, and tells lists of its own."""
        # Copies are handed in: what a test shares with others must not be changed here.
        handed, ahead = copy.deepcopy(handed), copy.deepcopy(handed)
        first = ask(*handed)
        self.told(handed, ahead)
        kept = copy.deepcopy(first)
        second = ask(*handed)
        self.told(second, kept)
        self.told(handed, ahead)
        self.own(first, second, handed)
        spoil(first)
        self.told(second, kept)
        self.told(handed, ahead)
        self.told(ask(*handed), kept)
        spoil(handed)
        self.told(second, kept)
        self.told(ask(*ahead), kept)


def alike_signs(one, other):
    """How many signs two keys have alike from the front on."""
    return len(os.path.commonprefix([one, other]))


def break_in(keys):
    """The place of the first key that is less than the one ahead, None where there is none."""
    return next((at for at in range(1, len(keys)) if keys[at] < keys[at - 1]), None)


class Played:
    """A merge by the words of points [6] to [8]: each match keeps its sides, what it sent up and what stays.

    How far keys are alike is reckoned anew from the keys each time. A deed tells what a Merge is to tell,
    or a refusal's name with its fields.
    """

    def __init__(self, rows):
        self.rows = {number: list(row) for number, row in enumerate(rows)}
        self.gone = {number: 0 for number in self.rows}
        self.next_number = len(rows)
        self.likenings = 0
        self.looks = 0
        self.play_all()

    def state(self):
        """All that can be asked without a deed."""
        heads = [(number, sent and sent[2]) for number, sent in ((n, self.sends(n)) for n in sorted(self.rows))]
        left = sum(len(self.rows[number]) - self.gone[number] for number in self.rows)
        return (self.tree and self.tree["up"], left, heads, self.likenings, self.looks)

    def sends(self, number):
        place = self.gone[number]
        return (number, place, self.rows[number][place]) if place < len(self.rows[number]) else None

    def play_all(self):
        self.tree = self.played(sorted(self.rows)) if self.rows else None

    def played(self, numbers):
        """The tree of these rows, played from the lowest on."""
        if len(numbers) == 1:
            return {"numbers": numbers, "sides": (), "up": self.sends(numbers[0]), "stays": None}
        many = len(numbers) // 2 + len(numbers) % 2
        sides = (self.played(numbers[:many]), self.played(numbers[many:]))
        tree = {"numbers": numbers, "sides": sides}
        self.match(tree, sides[0]["up"], sides[1]["up"], None)
        return tree

    def play_again(self, tree, goer):
        """Plays the matches on the way of the one that goes out again, from the lowest on."""
        if not tree["sides"]:
            tree["up"] = self.sends(goer[0])
            return
        first, rest = tree["sides"]
        if goer[0] in first["numbers"]:
            assert tree["stays"] == rest["up"]
            self.play_again(first, goer)
            self.match(tree, first["up"], tree["stays"], goer)
        else:
            assert tree["stays"] == first["up"]
            self.play_again(rest, goer)
            self.match(tree, tree["stays"], rest["up"], goer)

    def match(self, tree, one, other, goer):
        """What the first side and the other one send meets; of a first play there is no goer."""
        if one is None or other is None:
            tree["up"], tree["stays"] = one or other, None
            return
        self.likenings += 1
        wins = one[2] <= other[2]
        far = alike_signs(one[2], other[2])
        if goer is None:
            self.looks += far + 1
        else:
            one_far, other_far = alike_signs(one[2], goer[2]), alike_signs(other[2], goer[2])
            if one_far == other_far:
                self.looks += far - one_far + 1
            else:
                assert wins == (one_far > other_far)
        tree["up"], tree["stays"] = (one, other) if wins else (other, one)

    def take(self):
        goer = self.tree and self.tree["up"]
        if goer:
            self.gone[goer[0]] += 1
            self.play_again(self.tree, goer)
        return goer

    def take_few(self, many):
        return [thing for thing in (self.take() for time in range(many)) if thing]

    def add_row(self, row):
        number = self.next_number
        if break_in(row) is not None:
            return ("OutOfOrder", number, break_in(row))
        if len(self.rows) >= 16:
            return ("Full",)
        self.next_number += 1
        self.rows[number] = list(row)
        self.gone[number] = 0
        self.play_all()
        return number

    def drop_row(self, number):
        if number not in self.rows:
            return ("NoRow",)
        many = len(self.rows.pop(number)) - self.gone.pop(number)
        self.play_all()
        return many

    def grow(self, number, keys):
        if number not in self.rows:
            return ("NoRow",)
        row = self.rows[number] + keys
        if break_in(row) is not None:
            return ("OutOfOrder", number, break_in(row))
        anew = self.sends(number) is None and keys != []
        self.rows[number] = row
        if anew:
            self.play_all()
        return None


def state_of(merge):
    """All that can be asked of a Merge without a deed, as Played tells it."""
    return (merge.coming(), merge.left(), merge.heads(), merge.likenings(), merge.looks())


def outcome(deed, *handed):
    """What a deed tells, or its refusal as Played tells it."""
    try:
        return deed(*handed)
    except OutOfOrder as refusal:
        return ("OutOfOrder", refusal.row, refusal.place)
    except (Full, NoRow) as refusal:
        return (refusal.__class__.__name__,)


def some_row(random, most, signs="ab", length=4):
    """A row of at most so many keys; random is the test's own, with a seed."""
    many = random.randint(0, most)
    return sorted("".join(random.choices(signs, k=random.randint(0, length))) for time in range(many))


def is_paper(heads, n, thing):
    """Whether a list of tuples of three numbers is a paper for row n, by the words of point [10]."""
    keyed = dict(heads)
    others = [row for row, key in heads if key is not None and row != n]
    if n is None:
        return all(key is None for row, key in heads) and thing == []
    if keyed.get(n) is None or sorted(row for row, winner, far in thing) != others:
        return False
    for at, (row, winner, far) in enumerate(thing):
        if winner != n and winner not in [ahead for ahead, by, much in thing[:at]]:
            return False
        key, less = keyed[row], keyed[winner]
        if far < 0 or far > len(key) or far > len(less) or key[:far] != less[:far]:
            return False
        greater = far < len(key) and far < len(less) and key[far] > less[far]
        longer = far == len(less) and far < len(key)
        both_end = far == len(key) and far == len(less) and winner < row
        if not (greater or longer or both_end):
            return False
    return True


def played_runs(things, room):
    """The runs by the words of point [11]: those that are in stand in a dict by number, with the run each is for."""
    waiting = list(enumerate(things))
    inside = {number: 0 for number, key in waiting[:room]}
    del waiting[:room]
    gone = []
    while inside:
        goer = sorted(inside, key=lambda number: (inside[number], things[number], number))[0]
        run = inside.pop(goer)
        gone.append((run, goer))
        if waiting:
            number, key = waiting.pop(0)
            inside[number] = run + 1 if key < things[goer] else run
    return [[number for of, number in group] for run, group in itertools.groupby(gone, key=lambda each: each[0])]


def leaves(tree):
    """The numbers of a tree of merges from the left to the right."""
    return [number for part in tree for number in leaves(part)] if isinstance(tree, tuple) else [tree]


def tree_cost(sizes, tree):
    """The cost of a tree of merges, by the words of point [12]."""
    if not isinstance(tree, tuple):
        return 0
    return sum(sizes[number] for number in leaves(tree)) + sum(tree_cost(sizes, part) for part in tree)


def cuts(row, ways):
    """All ways to cut a list into two to ways parts."""
    for many in range(1, ways):
        for places in itertools.combinations(range(1, len(row)), many):
            ends = (0,) + places + (len(row),)
            yield [row[begin:end] for begin, end in itertools.pairwise(ends)]


def near_trees(numbers, ways):
    """All near trees over rising numbers."""
    if len(numbers) == 1:
        return [numbers[0]]
    return [tree for parts in cuts(numbers, ways)
            for tree in itertools.product(*(near_trees(part, ways) for part in parts))]


def shared_out(numbers, most):
    """All ways to share numbers out to one to so many parts, the parts in no order."""
    if not numbers:
        return [[]]
    shares = []
    for parts in shared_out(numbers[1:], most):
        shares += [parts[:at] + [[numbers[0]] + parts[at]] + parts[at + 1:] for at in range(len(parts))]
        if len(parts) < most:
            shares.append([[numbers[0]]] + parts)
    return shares


def all_trees(numbers, ways):
    """All trees of merges over numbers, the parts of a tuple in no order."""
    if len(numbers) == 1:
        return [numbers[0]]
    return [tree for parts in shared_out(numbers, ways) if len(parts) > 1
            for tree in itertools.product(*(all_trees(part, ways) for part in parts))]


def played_free(sizes, ways):
    """The free plan by the words of point [12]: what is there stands in a dict by number, as (size, tree)."""
    there = {number: (size, number) for number, size in enumerate(sizes)}
    cost, number, first = 0, len(sizes), True
    while len(there) > 1:
        many = 2 + (len(sizes) - 2) % (ways - 1) if first else ways
        least = sorted(there, key=lambda each: (there[each][0], each))[:many]
        assert len(least) == many
        taken = [there.pop(each) for each in least]
        size = sum(each[0] for each in taken)
        there[number] = (size, tuple(each[1] for each in taken))
        cost, number, first = cost + size, number + 1, False
    return cost, list(there.values())[0][1]


def least_prices(sizes, ways):
    """The list of prices by the words of point [13]: of all cuts of a stretch the least one, the short ones first."""
    numbers = list(range(len(sizes)))
    least = {}
    for many in range(1, len(sizes) + 1):
        for begin in range(len(sizes) - many + 1):
            stretch = numbers[begin:begin + many]
            sums = [sum(least[part[0], part[-1] + 1] for part in parts) for parts in cuts(stretch, ways)]
            least[begin, begin + many] = sum(sizes[begin:begin + many]) + min(sums) if sums else 0
    return [(begin, end, least[begin, end]) for begin, end in sorted(least)]
