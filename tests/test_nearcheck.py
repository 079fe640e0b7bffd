"""Point [13], its part on the checker of near trees."""

import itertools
import random

from mergetree.nearcheck import shows_near
from tests.helper import (
    OTHER_KINDS, Case, all_trees, cuts, least_prices, leaves, near_trees, nested, tree_cost)

MOST = 10 ** 9

SIZES = [4, 1, 3, 2]
# Two ways: rows 1, 2 and 3 together first.
TREE = (0, ((1, 2), 3))
PRICES = [(0, 1, 0), (0, 2, 5), (0, 3, 12), (0, 4, 20),
          (1, 2, 0), (1, 3, 4), (1, 4, 10), (2, 3, 0), (2, 4, 5), (3, 4, 0)]


def some_sizes(most):
    """Lists of one to so many sizes."""
    source = random.Random(13)
    for many in range(1, most + 1):
        yield from ([0] * many, [1] * many, [MOST] * many, list(range(many)), list(range(many, 0, -1)))
        for time in range(3):
            yield [source.randint(0, source.choice((2, 9, MOST))) for at in range(many)]


def least_tree(sizes, ways):
    """One of the near trees of the least cost."""
    return min(near_trees(list(range(len(sizes))), ways), key=lambda tree: tree_cost(sizes, tree))


def wanted(sizes, ways, tree, prices):
    """What shows_near is to tell of a tree of merges and of tuples of three numbers, by the words."""
    numbers = list(range(len(sizes)))
    if leaves(tree) != numbers:
        return False
    if [entry[:2] for entry in prices] != list(itertools.combinations(range(len(sizes) + 1), 2)):
        return False
    price_of = {(begin, end): price for begin, end, price in prices}
    for begin, end, price in prices:
        if end - begin == 1 and price > 0:
            return False
        for parts in cuts(numbers[begin:end], ways):
            together = sum(price_of[part[0], part[-1] + 1] for part in parts)
            if price > sum(sizes[begin:end]) + together:
                return False
    return price_of[0, len(sizes)] == tree_cost(sizes, tree)


def put(prices, at, entry):
    """The prices with another entry at a place."""
    return prices[:at] + [entry] + prices[at + 1:]


class RightOnesTest(Case):
    def test_by_hand(self):
        self.told(shows_near(SIZES, 2, TREE, PRICES), True)
        self.told(shows_near([5], 2, 0, [(0, 1, 0)]), True)
        self.told(shows_near([5, 7], 2, (0, 1), [(0, 1, 0), (0, 2, 12), (1, 2, 0)]), True)
        three = [(0, 1, 0), (0, 2, 3), (0, 3, 6), (1, 2, 0), (1, 3, 5), (2, 3, 0)]
        self.told(shows_near([1, 2, 3], 3, (0, 1, 2), three), True)
        self.told(shows_near([1, 2, 3], 2, ((0, 1), 2), put(three, 2, (0, 3, 9))), True)

    def test_least_trees_and_prices(self):
        for sizes in some_sizes(7):
            for ways in range(2, 7):
                self.told(shows_near(sizes, ways, least_tree(sizes, ways), least_prices(sizes, ways)), True)

    def test_twelve_sizes(self):
        # A tree put together of the words' prices, as there are too many near trees to go through.
        source = random.Random(12)
        for sizes in ([1] * 12, [MOST] * 12, list(range(12)), [source.randint(0, MOST) for at in range(12)]):
            for ways in (2, 4, 6):
                prices = least_prices(sizes, ways)
                least = {(begin, end): price for begin, end, price in prices}

                def tree_of(numbers):
                    if len(numbers) == 1:
                        return numbers[0]
                    return tuple(tree_of(part) for part in min(cuts(numbers, ways), key=lambda parts: sum(
                        least[part[0], part[-1] + 1] for part in parts)))
                tree = tree_of(list(range(12)))
                self.told(shows_near(sizes, ways, tree, prices), True)
                for at, (begin, end, price) in enumerate(prices):
                    self.told(shows_near(sizes, ways, tree, put(prices, at, (begin, end, price + 1))), False)

    def test_lower_prices_where_they_show_it_still(self):
        # Row 3's price alone is lowered: the stretches that end with it are bounded by less.
        self.told(shows_near(SIZES, 2, TREE, put(PRICES, 9, (3, 4, -1))), False)
        # Prices of stretches that no least tree has may be lower.
        self.told(shows_near([9, 1, 1], 2, (0, (1, 2)), [
            (0, 1, 0), (0, 2, 10), (0, 3, 13), (1, 2, 0), (1, 3, 2), (2, 3, 0)]), True)
        self.told(shows_near([9, 1, 1], 2, (0, (1, 2)), [
            (0, 1, 0), (0, 2, 2), (0, 3, 13), (1, 2, 0), (1, 3, 2), (2, 3, 0)]), True)
        self.told(shows_near([9, 1, 1], 2, (0, (1, 2)), [
            (0, 1, 0), (0, 2, 1), (0, 3, 13), (1, 2, 0), (1, 3, 2), (2, 3, 0)]), False)
        # Of two rows both prices of single ones bound the whole one's.
        self.told(shows_near([0, 0], 2, (0, 1), [(0, 1, 0), (0, 2, 0), (1, 2, 0)]), True)
        self.told(shows_near([0, 0], 2, (0, 1), [(0, 1, -1), (0, 2, 0), (1, 2, 0)]), False)


class WrongPricesTest(Case):
    def test_each_price_more_or_less(self):
        taken = refused = 0
        for sizes in some_sizes(5):
            for ways in range(2, 7):
                tree, prices = least_tree(sizes, ways), least_prices(sizes, ways)
                for at, (begin, end, price) in enumerate(prices):
                    for other in (price + 1, price - 1, price + 7, price - 7, 0, -price, 1, -1, MOST ** 2, -MOST ** 2):
                        changed = put(prices, at, (begin, end, other))
                        right = wanted(sizes, ways, tree, changed)
                        self.assertIs(shows_near(sizes, ways, tree, changed), right, (sizes, ways, tree, changed))
                        if other > price:
                            self.assertIs(right, False)
                        taken, refused = taken + right, refused + (not right)
        self.assertGreater(min(taken, refused), 100)

    def test_prices_one_more_or_less_at_several_places(self):
        source = random.Random(31)
        taken = refused = 0
        for time in range(4000):
            sizes = [source.randint(0, 3) for at in range(source.randint(2, 5))]
            ways = source.randint(2, 6)
            tree = source.choice(near_trees(list(range(len(sizes))), ways))
            prices = least_prices(sizes, ways)
            for change in range(source.randint(0, 3)):
                at = source.randrange(len(prices))
                begin, end, price = prices[at]
                prices[at] = (begin, end, price + source.choice((-1, 1, -2)))
            right = wanted(sizes, ways, tree, prices)
            self.assertIs(shows_near(sizes, ways, tree, prices), right, (sizes, ways, tree, prices))
            taken, refused = taken + right, refused + (not right)
        self.assertGreater(min(taken, refused), 400)

    def test_a_single_rows_price(self):
        for price in (-MOST, -2, -1, 0, 1, 2, MOST):
            self.told(shows_near([5], 2, 0, [(0, 1, price)]), price == 0)
            # Beside the other part's price that is so much above nought the whole one's could stand.
            self.told(shows_near([5, 7], 2, (0, 1), [(0, 1, price), (0, 2, 12), (1, 2, -price)]), price == 0)
        # The single row's price is bound by no stretch here.
        self.told(shows_near([1, 1], 2, (0, 1), [(0, 1, 1), (0, 2, 2), (1, 2, 0)]), False)
        self.told(shows_near([1, 1], 2, (0, 1), [(0, 1, 0), (0, 2, 2), (1, 2, 1)]), False)

    def test_cuts_into_up_to_ways_parts(self):
        # The prices of two ways are too high where three parts are put together at once.
        for ways in range(3, 7):
            sizes = [1] * ways
            numbers = list(range(ways))
            prices = least_prices(sizes, ways)
            fewer = least_prices(sizes, ways - 1)
            self.told(shows_near(sizes, ways, tuple(numbers), prices), True)
            self.told(shows_near(sizes, ways - 1, tuple(numbers), prices), False)
            tree = least_tree(sizes, ways - 1)
            self.told(shows_near(sizes, ways - 1, tree, fewer), True)
            self.told(shows_near(sizes, ways, tree, fewer), False)
            self.told(shows_near(sizes, ways, tree, put(prices, ways - 1, fewer[ways - 1])), False)

    def test_every_cut_counts(self):
        # One stretch's price is one lower: each stretch it is a part of in a least cut is then too dear.
        for sizes in ([1] * 6, [3, 1, 4, 1, 5, 9], [0, 5, 0, 5, 0]):
            for ways in range(2, 7):
                tree, prices = least_tree(sizes, ways), least_prices(sizes, ways)
                for at, (begin, end, price) in enumerate(prices):
                    lower = put(prices, at, (begin, end, price - 1))
                    self.told(shows_near(sizes, ways, tree, lower), wanted(sizes, ways, tree, lower))

    def test_an_entry_left_out_twice_or_put_in(self):
        for at in range(len(PRICES)):
            self.told(shows_near(SIZES, 2, TREE, PRICES[:at] + PRICES[at + 1:]), False)
            for to in range(len(PRICES) + 1):
                self.told(shows_near(SIZES, 2, TREE, PRICES[:to] + [PRICES[at]] + PRICES[to:]), False)
        for entry in ((0, 0, 0), (4, 4, 0), (0, 5, 30), (4, 5, 0), (-1, 0, 0), (1, 0, 0), (2, 1, 0), (3, 3, -1)):
            for to in range(len(PRICES) + 1):
                self.told(shows_near(SIZES, 2, TREE, PRICES[:to] + [entry] + PRICES[to:]), False)
                if to < len(PRICES):
                    self.told(shows_near(SIZES, 2, TREE, put(PRICES, to, entry)), False)
        self.told(shows_near(SIZES, 2, TREE, []), False)
        self.told(shows_near([5], 2, 0, []), False)

    def test_entries_exchanged(self):
        for one, other in itertools.combinations(range(len(PRICES)), 2):
            changed = list(PRICES)
            changed[one], changed[other] = PRICES[other], PRICES[one]
            self.told(shows_near(SIZES, 2, TREE, changed), False)
        self.told(shows_near(SIZES, 2, TREE, PRICES[::-1]), False)
        self.told(shows_near(SIZES, 2, TREE, sorted(PRICES, key=lambda entry: (entry[1], entry[0]))), False)

    def test_begin_or_end_one_more_or_less(self):
        for at, (begin, end, price) in enumerate(PRICES):
            for entry in ((begin + 1, end, price), (begin - 1, end, price), (begin, end + 1, price),
                          (begin, end - 1, price), (end, begin, price), (-begin - 1, end, price)):
                self.told(shows_near(SIZES, 2, TREE, put(PRICES, at, entry)), False)

    def test_entries_of_another_form(self):
        for at, (begin, end, price) in enumerate(PRICES):
            for entry in ([begin, end, price], (begin, end), (begin, end, price, 0), (begin, end, price, None), (),
                          (begin,), ((begin, end), price), (begin, (end, price)), ((begin, end, price),), price,
                          [(begin, end, price)], (begin, end, [price]), (begin, end, (price,)), "abc", "", None, True):
                self.told(shows_near(SIZES, 2, TREE, put(PRICES, at, entry)), False)
            for part in range(3):
                for thing in OTHER_KINDS + ["", "a", "0", str(price)]:
                    entry = (begin, end, price)[:part] + (thing,) + (begin, end, price)[part + 1:]
                    changed = put(PRICES, at, entry)
                    right = thing.__class__ is int and wanted(SIZES, 2, TREE, changed)
                    self.assertIs(shows_near(SIZES, 2, TREE, changed), right, repr(entry))

    def test_true_and_false_are_no_numbers(self):
        prices = [(0, 1, 0), (0, 2, 1), (1, 2, 0)]
        self.told(shows_near([0, 1], 2, (0, 1), prices), True)
        for at, entry in enumerate(prices):
            for part in range(3):
                if entry[part] < 2:
                    changed = entry[:part] + (bool(entry[part]),) + entry[part + 1:]
                    self.told(shows_near([0, 1], 2, (0, 1), put(prices, at, changed)), False)

    def test_prices_of_other_kinds(self):
        self.told(shows_near(SIZES, 2, TREE, tuple(PRICES)), False)
        self.told(shows_near(SIZES, 2, TREE, [PRICES]), False)
        self.told(shows_near([5], 2, 0, ((0, 1, 0),)), False)
        for thing in OTHER_KINDS + ["", "abc", [0, 1, 0], [[0, 1, 0]]]:
            self.told(shows_near(SIZES, 2, TREE, thing), False)
            self.told(shows_near([5], 2, 0, thing), False)

    def test_nested_twenty_deep(self):
        for kind in (list, tuple):
            for depth in (1, 2, 19, 20):
                for core in (0, (0, 1, 0), "", None, True):
                    thing = nested(depth, core, kind)
                    wanted_one = thing == [(0, 1, 0)]
                    self.told(shows_near([5], 2, 0, thing), wanted_one)
                    self.told(shows_near(SIZES, 2, TREE, thing), False)
                    self.told(shows_near(SIZES, 2, thing, PRICES), False)
                    if depth < 19:
                        self.told(shows_near(SIZES, 2, TREE, put(PRICES, 9, thing)), False)
                        self.told(shows_near(SIZES, 2, TREE, put(PRICES, 9, (3, 4, thing))), False)


class WrongTreesTest(Case):
    def test_trees_that_are_none(self):
        for tree in (None, True, False, 0, 1, 4, -1, "", "0123", [], (), (0, 1), [0, [[1, 2], 3]], (0, [(1, 2), 3]),
                     (0, ((1, 2), 3), 4), (0, ((1, 2), 2)), (0, ((1, 2),)), (0, ((1, 2), (3,))), ((0, ((1, 2), 3)),),
                     (False, ((True, 2), 3)), (0, ((1, 2), None)), (0, ((1, 2), "3")), (0, 1, 2, 3), (0, (1, 2, 3))):
            self.told(shows_near(SIZES, 2, tree, PRICES), False)
        self.told(shows_near([5], 2, (0,), [(0, 1, 0)]), False)
        self.told(shows_near([5], 2, [0], [(0, 1, 0)]), False)
        self.told(shows_near([5], 2, False, [(0, 1, 0)]), False)
        self.told(shows_near([5], 2, 1, [(0, 1, 0)]), False)
        for thing in OTHER_KINDS:
            self.told(shows_near(SIZES, 2, thing, PRICES), False)

    def test_numbers_that_do_not_rise(self):
        for tree in ((((1, 2), 3), 0), (0, (3, (1, 2))), (0, ((2, 1), 3)), (0, ((1, 3), 2)), (3, ((2, 1), 0))):
            self.told(shows_near(SIZES, 2, tree, PRICES), False)
        # Of like sizes each tree of the form costs the same.
        prices = least_prices([2] * 4, 2)
        for order in itertools.permutations(range(4)):
            one, two, three, four = order
            self.told(shows_near([2] * 4, 2, ((one, two), (three, four)), prices), order == (0, 1, 2, 3))
        self.told(shows_near([5, 7], 2, (1, 0), [(0, 1, 0), (0, 2, 12), (1, 2, 0)]), False)

    def test_all_trees_of_few_sizes(self):
        for sizes in some_sizes(5):
            for ways in range(2, 6):
                prices = least_prices(sizes, ways)
                least = prices[len(sizes) - 1][2]
                for tree in all_trees(list(range(len(sizes))), ways) + near_trees(list(range(len(sizes))), ways):
                    right = leaves(tree) == list(range(len(sizes))) and tree_cost(sizes, tree) == least
                    self.assertIs(shows_near(sizes, ways, tree, prices), right, (sizes, ways, tree))

    def test_a_dearer_tree(self):
        for sizes in some_sizes(6):
            for ways in range(2, 7):
                prices = least_prices(sizes, ways)
                least = prices[len(sizes) - 1]
                for tree in near_trees(list(range(len(sizes))), ways)[::7]:
                    cost = tree_cost(sizes, tree)
                    self.told(shows_near(sizes, ways, tree, prices), cost == least[2])
                    # The whole one's price is right for the tree, and the prices of its parts too.
                    self.told(shows_near(sizes, ways, tree, put(prices, len(sizes) - 1, (0, len(sizes), cost))),
                              cost == least[2])
                    own = [(begin, end, own_price(sizes, tree, begin, end, price)) for begin, end, price in prices]
                    self.told(shows_near(sizes, ways, tree, own), wanted(sizes, ways, tree, own))
                    self.assertEqual(wanted(sizes, ways, tree, own), cost == least[2])

    def test_more_than_ways_parts(self):
        self.told(shows_near([1, 2, 3], 2, (0, 1, 2), [
            (0, 1, 0), (0, 2, 3), (0, 3, 6), (1, 2, 0), (1, 3, 5), (2, 3, 0)]), False)

    def test_a_great_thing_made_of_few(self):
        thing = 0
        for step in range(18):
            thing = (thing,) * 6
        self.told(shows_near(SIZES, 6, thing, PRICES), False)


def own_price(sizes, tree, begin, end, price):
    """What a stretch costs in the tree where it is one of its parts, else its price."""
    if leaves(tree) == list(range(begin, end)):
        return tree_cost(sizes, tree)
    if isinstance(tree, tuple):
        for part in tree:
            price = own_price(sizes, part, begin, end, price)
    return price


class KeptTest(Case):
    def test_nothing_is_changed(self):
        self.keeps(shows_near, SIZES, 2, TREE, PRICES)
        self.keeps(shows_near, [5], 2, 0, [(0, 1, 0)])
        for thing in OTHER_KINDS:
            self.keeps(shows_near, SIZES, 2, TREE, thing)
            self.keeps(shows_near, SIZES, 2, thing, PRICES)
