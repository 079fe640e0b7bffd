"""Rows: lists of keys, none less than the one ahead of it."""

from mergetree.likening import alike, is_key, liken


def is_row(thing):
    """Whether a thing is a list of keys in order, maybe of none."""
    if not isinstance(thing, list):
        return False
    # All are known to be keys ahead of any likening: nothing else can be likened.
    for key in thing:
        if not is_key(key):
            return False
    return first_break(thing) is None


def first_break(keys):
    """The place of the first key that is less than the one ahead, None where there is none."""
    for place in range(1, len(keys)):
        if liken(keys[place], keys[place - 1]) < 0:
            return place
    return None


def alikes(row):
    """For each key how far it is alike with the one ahead, 0 for the first."""
    told = []
    for place, key in enumerate(row):
        told.append(0 if place == 0 else alike(row[place - 1], key))
    return told


def two_merged(one, other):
    """Tuples (0 or 1, place) of all keys of two rows in order, like ones of the first row ahead."""
    told = []
    left = 0
    right = 0
    while left < len(one) and right < len(other):
        if liken(one[left], other[right]) <= 0:
            told.append((0, left))
            left += 1
        else:
            told.append((1, right))
            right += 1
    for place in range(left, len(one)):
        told.append((0, place))
    for place in range(right, len(other)):
        told.append((1, place))
    return told
