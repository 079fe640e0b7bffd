"""The form of the tree: which rows stand on which side of a match."""


def halves(numbers):
    """The numbers of both sides, as many in both or one more in the first."""
    middle = (len(numbers) + 1) // 2
    return (numbers[:middle], numbers[middle:])


def way_up(numbers, n):
    """The other sides' numbers of the matches on the way from row n up, the lowest first."""
    others = []
    side = numbers
    while len(side) > 1:
        first, rest = halves(side)
        if n in first:
            others.append(rest)
            side = first
        else:
            others.append(first)
            side = rest
    # The way was walked from the top down.
    others.reverse()
    return others


def height(many):
    """The most matches on the way of a row in a tree of so many."""
    # The greater side has half of them, rounded up, so each match doubles what fits below it.
    return 0 if many == 0 else (many - 1).bit_length()
