"""The small checker of near trees: whether prices show that no near tree costs less."""

from mergetree.kinds import is_triple
from mergetree.plans import cost_of, finds_rows


def shows_near(sizes, ways, tree, prices):
    """Whether tree is a near tree, and prices show that none costs less."""
    if not is_near(sizes, ways, tree) or not are_prices(len(sizes), prices):
        return False
    priced = {(begin, end): price for begin, end, price in prices}
    if priced[(0, len(sizes))] != cost_of(sizes, tree):
        return False
    cut = cut_prices(priced, ways - 1)
    for begin, end, price in prices:
        if price > most_price(sizes, priced, cut, begin, end):
            return False
    return True


def is_near(sizes, ways, thing):
    """Whether a thing is a tree of merges whose numbers rise from the left to the right."""
    found = []
    return finds_rows(sizes, ways, thing, found) and found == list(range(len(sizes)))


def are_prices(many, thing):
    """Whether a thing is a list of a price for each stretch of so many rows, rising."""
    if not isinstance(thing, list):
        return False
    for entry in thing:
        if not is_triple(entry):
            return False
    return [(begin, end) for begin, end, price in thing] == stretches_of(many)


def stretches_of(many):
    """All stretches of so many rows, as tuples (begin, end), rising."""
    return [(begin, end) for begin in range(many) for end in range(begin + 1, many + 1)]


def cut_prices(priced, most):
    """For each stretch the least that its parts' prices are together, cut into one to most parts."""
    cut = priced
    for parts in range(2, most + 1):
        cut = {(begin, end): min([price] + part_sums(priced, cut, begin, end))
               for (begin, end), price in priced.items()}
    return cut


def part_sums(priced, cut, begin, end):
    """For each first part of a stretch its price and that of the rest, cut further, together."""
    return [priced[(begin, middle)] + cut[(middle, end)] for middle in range(begin + 1, end)]


def most_price(sizes, priced, cut, begin, end):
    """What the price of a stretch must not be above."""
    if end - begin == 1:
        return 0
    return sum(sizes[begin:end]) + min(part_sums(priced, cut, begin, end))
