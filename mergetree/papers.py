"""Which row comes next, and papers that show it."""

from mergetree.likening import alike


def next_of(heads):
    """The row of the least key, of like ones the least row; None where no row has a key."""
    least = min([(key, row) for row, key in heads if key is not None], default=None)
    return None if least is None else least[1]


def paper_of(heads):
    """A paper for next_of's row, [] where it is None."""
    n = next_of(heads)
    if n is None:
        return []
    keys = {row: key for row, key in heads}
    # Next_of's row wins over each: no other winner is alike with a row less far.
    return [(row, n, alike(key, keys[n])) for row, key in heads if key is not None and row != n]
