"""The small checker of papers: whether one shows that a row's key comes next."""

from mergetree.kinds import is_number, is_triple
from mergetree.likening import liken_from


def shows_next(heads, n, thing):
    """Whether row n has a key and thing is a paper for it; of None whether no row has and thing is []."""
    if not isinstance(thing, list):
        return False
    keyed = {row: key for row, key in heads if key is not None}
    if n is None:
        return len(keyed) == 0 and len(thing) == 0
    if not is_number(n) or n not in keyed:
        return False
    # The rows known not to be less than n's key: only these may win.
    ahead = {n: True}
    for entry in thing:
        if not is_triple(entry) or not shows_greater(keyed, ahead, entry):
            return False
        ahead[entry[0]] = True
    return len(ahead) == len(keyed)


def shows_greater(keyed, ahead, entry):
    """Whether an entry shows that a row not yet ahead comes behind one that is."""
    row, winner, far = entry
    if row not in keyed or row in ahead or winner not in ahead:
        return False
    order, alike_far, seen = liken_from(keyed[row], keyed[winner], 0)
    return far == alike_far and (order > 0 or (order == 0 and winner < row))


def signs_in(paper):
    """The sum of one more than far."""
    return sum([far + 1 for row, winner, far in paper])
