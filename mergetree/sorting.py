"""Whole sorts: things cut into runs, and these merged by a tree."""

from mergetree.kinds import is_number
from mergetree.nearplans import near_plan
from mergetree.runs import is_run, runs_of
from mergetree.whole import merged


def merged_by(things, runs, tree):
    """The list of all numbers that comes of merging the runs by a tree of their numbers."""
    if is_number(tree):
        return list(runs[tree])
    parts = [merged_by(things, runs, part) for part in tree]
    rows = [[things[number] for number in part] for part in parts]
    return [parts[part][place] for part, place in merged(rows)]


def sort_by(things, room, ways):
    """The numbers of all things by rising (key, number), and what merging their runs costs."""
    runs = runs_of(things, room)
    if len(runs) == 0:
        return ([], 0)
    cost, tree = near_plan([len(run) for run in runs], ways)
    return (merged_by(things, runs, tree), cost)


def is_sorted(things, thing):
    """Whether a thing is the list of all numbers by rising (key, number)."""
    if len(things) == 0:
        return isinstance(thing, list) and len(thing) == 0
    return is_run(things, thing) and len(thing) == len(things)
