"""Point [5]: the form of the tree."""

from mergetree.halves import halves, height, way_up
from tests.helper import Case


def with_holes(many):
    """Rising numbers, so many, with holes between."""
    return [3 + at * at for at in range(many)]


def lists_of_numbers():
    """Rising lists of one to forty numbers, without and with holes."""
    for many in range(1, 41):
        yield list(range(many))
        yield with_holes(many)
        yield list(range(-5, many - 5))


class HalvesTest(Case):
    def test_plain_lists(self):
        self.told(halves([0, 1]), ([0], [1]))
        self.told(halves([0, 1, 2]), ([0, 1], [2]))
        self.told(halves([0, 1, 2, 3]), ([0, 1], [2, 3]))
        self.told(halves([0, 1, 2, 3, 4]), ([0, 1, 2], [3, 4]))
        self.told(halves(list(range(16))), (list(range(8)), list(range(8, 16))))
        self.told(halves(list(range(15))), (list(range(8)), list(range(8, 15))))

    def test_numbers_with_holes(self):
        self.told(halves([3, 39]), ([3], [39]))
        self.told(halves([1, 2, 9]), ([1, 2], [9]))
        self.told(halves([0, 4, 5, 11]), ([0, 4], [5, 11]))
        self.told(halves([2, 3, 10, 11, 10 ** 30]), ([2, 3, 10], [11, 10 ** 30]))

    def test_as_many_in_both_or_one_more_in_the_first(self):
        for numbers in lists_of_numbers():
            if len(numbers) > 1:
                pair = halves(numbers)
                self.assertIs(pair.__class__, tuple)
                self.assertEqual(len(pair), 2)
                self.told(pair[0] + pair[1], numbers)
                self.assertIn(len(pair[0]) - len(pair[1]), (0, 1))

    def test_the_told_lists_are_the_askers_own(self):
        for numbers in lists_of_numbers():
            if len(numbers) > 1:
                self.keeps(halves, numbers)

    def test_a_told_side_may_be_handed_in_again(self):
        first, rest = halves([0, 1, 2, 3, 4])
        self.told(halves(first), ([0, 1], [2]))
        self.told(halves(rest), ([3], [4]))
        self.told((first, rest), ([0, 1, 2], [3, 4]))


class WayUpTest(Case):
    def test_one_number(self):
        self.told(way_up([0], 0), [])
        self.told(way_up([17], 17), [])

    def test_two_and_three_numbers(self):
        self.told(way_up([0, 1], 0), [[1]])
        self.told(way_up([0, 1], 1), [[0]])
        self.told(way_up([0, 1, 2], 0), [[1], [2]])
        self.told(way_up([0, 1, 2], 1), [[0], [2]])
        self.told(way_up([0, 1, 2], 2), [[0, 1]])

    def test_more_numbers(self):
        self.told(way_up([0, 1, 2, 3], 2), [[3], [0, 1]])
        self.told(way_up([2, 3, 5, 7, 11], 2), [[3], [5], [7, 11]])
        self.told(way_up([2, 3, 5, 7, 11], 5), [[2, 3], [7, 11]])
        self.told(way_up([2, 3, 5, 7, 11], 7), [[11], [2, 3, 5]])
        self.told(way_up(list(range(16)), 5), [[4], [6, 7], [0, 1, 2, 3], list(range(8, 16))])
        self.told(way_up(list(range(16)), 15), [[14], [12, 13], [8, 9, 10, 11], list(range(8))])

    def test_each_number_by_the_words_of_the_point(self):
        def way(numbers, n):
            if len(numbers) == 1:
                return []
            many = -(-len(numbers) // 2)
            first, rest = numbers[:many], numbers[many:]
            return way(first, n) + [rest] if n in first else way(rest, n) + [first]

        for numbers in lists_of_numbers():
            for n in numbers:
                self.told(way_up(numbers, n), way(numbers, n))

    def test_all_the_others_stand_in_it_once(self):
        for numbers in lists_of_numbers():
            for n in numbers:
                others = [each for side in way_up(numbers, n) for each in side]
                self.told(sorted(others + [n]), numbers)

    def test_the_told_lists_are_the_askers_own(self):
        for many in (1, 2, 3, 5, 8, 16, 17):
            for n in with_holes(many):
                self.keeps(way_up, with_holes(many), n)


class HeightTest(Case):
    def test_small_ones(self):
        wanted = {0: 0, 1: 0, 2: 1, 3: 2, 4: 2, 5: 3, 6: 3, 7: 3, 8: 3, 9: 4, 15: 4, 16: 4, 17: 5, 32: 5, 33: 6}
        for many, most in wanted.items():
            self.told(height(many), most)

    def test_the_longest_way_up(self):
        for many in range(1, 130):
            numbers = list(range(many))
            self.told(height(many), max(len(way_up(numbers, n)) for n in numbers))

    def test_very_great_numbers(self):
        for power in (10, 52, 53, 54, 63, 64, 65, 1000, 5000):
            self.told(height(2 ** power - 1), power)
            self.told(height(2 ** power), power)
            self.told(height(2 ** power + 1), power + 1)
        self.told(height(10 ** 30), 100)
        self.told(height(10 ** 2000), 6644)

    def test_asked_again(self):
        for many in (0, 1, 7, 10 ** 40):
            self.keeps(height, many)
