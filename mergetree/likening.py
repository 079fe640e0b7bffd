"""Keys, and how two of them are likened sign by sign."""


def is_key(thing):
    """Whether a thing is a text of letters from a to z, maybe none."""
    if not isinstance(thing, str):
        return False
    for sign in thing:
        if sign < "a" or sign > "z":
            return False
    return True


def alike(one, other):
    """How many signs both keys have alike from the front on."""
    return alike_from(one, other, 0)


def liken(one, other):
    """-1, 0 or 1: whether the one key is less than, like or greater than the other."""
    return order_at(one, other, alike(one, other))


def liken_from(one, other, far):
    """Order, how far alike, and looks, of two keys that are known to be alike for far signs."""
    at = alike_from(one, other, far)
    # The place that ends the search is looked at too, also where both keys end there.
    return (order_at(one, other, at), at, at - far + 1)


def alike_from(one, other, far):
    """How far two keys are alike that are known to be so for far signs."""
    at = far
    while at < len(one) and at < len(other) and one[at] == other[at]:
        at += 1
    return at


def order_at(one, other, at):
    """The order of two keys that are alike for at signs and no farther."""
    if at == len(one) and at == len(other):
        return 0
    if at == len(one):
        return -1
    if at == len(other):
        return 1
    return -1 if one[at] < other[at] else 1
