"""Whole merges of rows, and what they cost."""

from mergetree.halves import height
from mergetree.merge import Merge


def merged(rows):
    """Tuples (row, place) of all things in order, like keys by row, then place."""
    return [(row, place) for row, place, key in Merge(rows).take_few(how_many(rows))]


def merged_keys(rows):
    """All keys in order."""
    return [key for row, place, key in Merge(rows).take_few(how_many(rows))]


def counts(rows):
    """How many likenings and looks a Merge of the rows takes till all have gone out."""
    merge = Merge(rows)
    merge.take_few(how_many(rows))
    return (merge.likenings(), merge.looks())


def bounds_of(rows):
    """What neither of the counts is above."""
    first_play = max(len(rows) - 1, 0)
    signs = sum([len(key) for row in rows for key in row])
    return (first_play + height(len(rows)) * how_many(rows), counts(rows)[0] + signs)


def how_many(rows):
    """How many things the rows have together."""
    return sum([len(row) for row in rows])
