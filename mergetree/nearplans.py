"""Near trees of the least cost, and the prices of all stretches of rows."""


def near_plan(sizes, ways):
    """The least cost of all near trees, and a tree of this cost."""
    price, trees = least_groves(sizes, ways)[(0, len(sizes), 1)]
    return (price, trees[0])


def prices_for(sizes, ways):
    """Tuples (begin, end, price) for each stretch of rows, rising: the least cost of all near trees of these rows."""
    groves = least_groves(sizes, ways)
    many = len(sizes)
    return [(begin, end, groves[(begin, end, 1)][0]) for begin in range(many) for end in range(begin + 1, many + 1)]


def least_groves(sizes, ways):
    """For each (begin, end, most) the least that one to most near trees side by side cost, and these trees.

    The trees of a grove have all rows from begin to below end. Most is 1 to one less than ways: what stands in
    a tuple behind its first part.
    """
    groves = {}
    # A stretch's price is reckoned from those of shorter ones, so that each is reckoned once.
    for many in range(1, len(sizes) + 1):
        for begin in range(len(sizes) - many + 1):
            end = begin + many
            alone = least_tree(groves, sizes, ways, begin, end)
            for most in range(1, ways):
                groves[(begin, end, most)] = least_grove(groves, alone, begin, end, most)
    return groves


def least_tree(groves, sizes, ways, begin, end):
    """The price of a stretch, and the tuple of the one tree that costs so much."""
    if end - begin == 1:
        return (0, (begin,))
    price, parts = least_cut(groves, begin, end, ways)
    return (price + sum(sizes[begin:end]), (parts,))


def least_grove(groves, alone, begin, end, most):
    """The least of a stretch's one tree alone and of its cuts into two to most trees."""
    if end - begin == 1 or most == 1:
        return alone
    cut = least_cut(groves, begin, end, most)
    return cut if cut[0] < alone[0] else alone


def least_cut(groves, begin, end, most):
    """The least that two to most near trees side by side cost, and these trees, of two rows or more."""
    price, middle = min([(groves[(begin, middle, 1)][0] + groves[(middle, end, most - 1)][0], middle)
                         for middle in range(begin + 1, end)])
    return (price, groves[(begin, middle, 1)][1] + groves[(middle, end, most - 1)][1])
