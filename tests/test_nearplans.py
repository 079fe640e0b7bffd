"""Point [13], its part on making near trees."""

import itertools
import random
from unittest import mock

from mergetree import nearplans
from mergetree.nearcheck import shows_near
from mergetree.nearplans import near_plan, prices_for
from mergetree.plans import cost_of, free_plan, is_plan
from tests.helper import Case, least_prices, leaves, near_trees, tree_cost

MOST = 10 ** 9


def some_sizes(most):
    """Lists of one to so many sizes, the same in each run."""
    source = random.Random(14)
    for many in range(1, most + 1):
        yield from ([0] * many, [1] * many, [MOST] * many, list(range(many)), list(range(many, 0, -1)))
        yield from ([2 ** at for at in range(many)], [2 ** at for at in range(many)][::-1])
        yield [source.choice((0, MOST)) for at in range(many)]
        for bound in (2, 9, 1000, MOST):
            yield [source.randint(0, bound) for at in range(many)]


class NearPlanTest(Case):
    def test_one_and_two_sizes(self):
        for ways in range(2, 7):
            for size in (0, 1, MOST):
                self.told(near_plan([size], ways), (0, 0))
            for sizes in ([3, 4], [4, 3], [0, 0], [0, MOST]):
                self.told(near_plan(sizes, ways), (sum(sizes), (0, 1)))

    def test_reckoned_by_hand(self):
        self.told(near_plan([1, 1, 5], 2), (2 + 7, ((0, 1), 2)))
        self.told(near_plan([5, 1, 1], 2), (2 + 7, (0, (1, 2))))
        self.told(near_plan([1, 5, 1], 2)[0], 6 + 7)
        self.told(near_plan([1, 5, 1], 3), (7, (0, 1, 2)))
        self.told(near_plan([1, 1, 1, 1], 2), (2 + 2 + 4, ((0, 1), (2, 3))))
        self.told(near_plan([1, 1, 1, 9], 3)[0], 2 + 12)
        self.told(near_plan([4, 1, 3, 2], 2)[0], 20)

    def test_twelve_sizes_by_hand(self):
        # So many rows as deep as can be seen on paper: 4 three and 8 four deep, 7 two and 5 three deep, and so on.
        for ways, cost in ((2, 12 + 32), (3, 14 + 15), (4, 1 + 22), (6, 4 + 16)):
            self.told(near_plan([1] * 12, ways)[0], cost)

    def test_the_cost_is_that_of_the_tree(self):
        for sizes in some_sizes(13):
            for ways in range(2, 7):
                cost, tree = near_plan(sizes, ways)
                self.told(cost_of(sizes, tree), cost)
                self.told(tree_cost(sizes, tree), cost)

    def test_the_tree_is_one_and_its_numbers_rise(self):
        for sizes in some_sizes(13):
            for ways in range(2, 7):
                cost, tree = near_plan(sizes, ways)
                self.told(is_plan(sizes, ways, tree), True)
                self.told(leaves(tree), list(range(len(sizes))))

    def test_no_near_tree_costs_less(self):
        trees = {(many, ways): near_trees(list(range(many)), ways) for many in range(1, 8) for ways in range(2, 7)}
        for sizes in some_sizes(7):
            for ways in range(2, 7):
                least = min(tree_cost(sizes, tree) for tree in trees[len(sizes), ways])
                self.told(near_plan(sizes, ways)[0], least)

    def test_all_small_sizes(self):
        trees = {ways: near_trees(list(range(4)), ways) for ways in range(2, 5)}
        for sizes in itertools.product(range(4), repeat=4):
            for ways in range(2, 5):
                self.told(near_plan(list(sizes), ways)[0], min(tree_cost(sizes, tree) for tree in trees[ways]))

    def test_never_less_than_the_least_of_all_trees(self):
        for sizes in some_sizes(13):
            for ways in range(2, 7):
                self.assertGreaterEqual(near_plan(sizes, ways)[0], free_plan(sizes, ways)[0])

    def test_as_cheap_as_all_trees_where_the_least_ones_are_neighbours(self):
        for many in range(1, 13):
            for sizes in ([3 ** at for at in range(many)], [7] * many):
                for ways in range(2, 7):
                    self.told(near_plan(sizes, ways)[0], free_plan(sizes, ways)[0])

    def test_more_ways_never_cost_more(self):
        for sizes in some_sizes(12):
            costs = [near_plan(sizes, ways)[0] for ways in range(2, 7)]
            self.told(costs, sorted(costs, reverse=True))

    def test_shown_by_prices(self):
        for sizes in some_sizes(13):
            for ways in range(2, 7):
                tree, prices = near_plan(sizes, ways)[1], prices_for(sizes, ways)
                self.told(shows_near(sizes, ways, tree, prices), True)

    def test_sixty_sizes(self):
        # Were the stretches' prices not kept, this would not end.
        for sizes in ([1] * 60, [at % 7 + 1 for at in range(60)], list(range(60))):
            for ways in (2, 6):
                cost, tree = near_plan(sizes, ways)
                self.told(tree_cost(sizes, tree), cost)
                self.told(leaves(tree), list(range(60)))
                self.told(shows_near(sizes, ways, tree, prices_for(sizes, ways)), True)

    def test_the_price_of_each_stretch_is_reckoned_once(self):
        for ask in (near_plan, prices_for):
            for many in (1, 2, 7, 12, 60):
                with mock.patch("mergetree.nearplans.least_tree", wraps=nearplans.least_tree) as reckon:
                    ask([1] * many, 4)
                reckoned = [call.args[-2:] for call in reckon.call_args_list]
                self.told(sorted(reckoned), list(itertools.combinations(range(many + 1), 2)))

    def test_nothing_is_changed(self):
        for sizes in ([4], [4, 3], [1, 1, 2, 3, 5], [0] * 6):
            for ways in (2, 3, 6):
                self.keeps(near_plan, sizes, ways)


class PricesForTest(Case):
    def test_one_and_two_sizes(self):
        for ways in range(2, 7):
            for size in (0, 1, MOST):
                self.told(prices_for([size], ways), [(0, 1, 0)])
            self.told(prices_for([3, 4], ways), [(0, 1, 0), (0, 2, 7), (1, 2, 0)])

    def test_reckoned_by_hand(self):
        self.told(prices_for([4, 1, 3, 2], 2), [
            (0, 1, 0), (0, 2, 5), (0, 3, 12), (0, 4, 20),
            (1, 2, 0), (1, 3, 4), (1, 4, 10), (2, 3, 0), (2, 4, 5), (3, 4, 0)])
        self.told(prices_for([1, 2, 3], 3), [
            (0, 1, 0), (0, 2, 3), (0, 3, 6), (1, 2, 0), (1, 3, 5), (2, 3, 0)])

    def test_every_stretch_once_and_rising(self):
        for sizes in some_sizes(13):
            for ways in range(2, 7):
                prices = prices_for(sizes, ways)
                stretches = [(begin, end) for begin, end, price in prices]
                self.told(stretches, list(itertools.combinations(range(len(sizes) + 1), 2)))
                for begin, end, price in prices:
                    if end - begin == 1:
                        self.told(price, 0)

    def test_as_by_the_words(self):
        for sizes in some_sizes(8):
            for ways in range(2, 7):
                self.told(prices_for(sizes, ways), least_prices(sizes, ways))

    def test_each_price_is_that_of_the_near_plan_of_the_stretch(self):
        for sizes in some_sizes(6):
            for ways in range(2, 7):
                for begin, end, price in prices_for(sizes, ways):
                    self.told(near_plan(sizes[begin:end], ways)[0], price)

    def test_the_told_list_is_the_askers_own(self):
        for sizes in ([4], [4, 3], [1, 1, 2, 3, 5]):
            for ways in (2, 3, 6):
                self.keeps(prices_for, sizes, ways)
