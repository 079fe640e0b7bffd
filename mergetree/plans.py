"""Trees of merges: what they are, what they cost, and the least one of all."""

from mergetree.kinds import is_number


def is_plan(sizes, ways, thing):
    """Whether a thing is a tree of merges in which each number of sizes stands once."""
    found = []
    return finds_rows(sizes, ways, thing, found) and len(found) == len(sizes)


def finds_rows(sizes, ways, thing, found):
    """Whether a thing is a tree of rows that weren't found ahead; puts them to those that were found."""
    if is_number(thing):
        # Ending at the first row that stands twice keeps the walk short, however great the thing is.
        if thing < 0 or thing >= len(sizes) or thing in found:
            return False
        found.append(thing)
        return True
    if not isinstance(thing, tuple) or len(thing) < 2 or len(thing) > ways:
        return False
    for part in thing:
        if not finds_rows(sizes, ways, part, found):
            return False
    return True


def cost_of(sizes, tree):
    """The sum, over all tuples of a tree, of the sizes of all rows within."""
    return size_and_cost(sizes, tree)[1]


def size_and_cost(sizes, tree):
    """The size of all rows within a tree, and its cost."""
    if is_number(tree):
        return (sizes[tree], 0)
    size = 0
    cost = 0
    for part in tree:
        part_size, part_cost = size_and_cost(sizes, part)
        size += part_size
        cost += part_cost
    return (size, cost + size)


def free_plan(sizes, ways):
    """The least cost of all trees, and a tree of this cost."""
    there = sorted([(size, number) for number, size in enumerate(sizes)])
    trees = list(range(len(sizes)))
    cost = 0
    # So many the first time that all others are of as many as can be.
    many = 2 + (len(sizes) - 2) % (ways - 1)
    while len(there) > 1:
        together = there[:many]
        size = sum([each[0] for each in together])
        there = sorted(there[many:] + [(size, len(trees))])
        trees.append(tuple([trees[each[1]] for each in together]))
        cost += size
        many = ways
    return (cost, trees[-1])
