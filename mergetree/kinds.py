"""What kind a thing is."""


def is_number(thing):
    """Whether a thing is a whole number; True and False are none."""
    return isinstance(thing, int) and not isinstance(thing, bool)


def is_triple(thing):
    """Whether a thing is a tuple of three numbers."""
    if not isinstance(thing, tuple) or len(thing) != 3:
        return False
    return is_number(thing[0]) and is_number(thing[1]) and is_number(thing[2])
