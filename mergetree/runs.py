"""Things, keys in any order numbered from 0, cut into runs."""

from mergetree.kinds import is_number
from mergetree.likening import liken


def stretches(things):
    """The runs of numbers that follow one another, as few as can be, in which no key is less than the one ahead."""
    runs = []
    for number, key in enumerate(things):
        if number > 0 and liken(things[number - 1], key) <= 0:
            runs[-1].append(number)
        else:
            runs.append([number])
    return runs


def runs_of(things, room):
    """The runs that come of letting the least one in out, with places for room things."""
    # Those that are in, each as (run, key, number), so that the least of them goes out.
    inside = [(0, things[number], number) for number in range(min(room, len(things)))]
    next_in = len(inside)
    runs = []
    while len(inside) > 0:
        goer = min(inside)
        inside.remove(goer)
        run, key, number = goer
        if run == len(runs):
            runs.append([])
        runs[run].append(number)
        if next_in < len(things):
            inside.append((run_behind(run, key, things[next_in]), things[next_in], next_in))
            next_in += 1
    return runs


def run_behind(run, key, comer):
    """The run of a key that comes in when another one goes out to its run."""
    return run if liken(comer, key) >= 0 else run + 1


def is_run(things, thing):
    """Whether a thing is a list of one or more unlike numbers of things, by rising (key, number)."""
    if not isinstance(thing, list) or len(thing) == 0:
        return False
    for number in thing:
        if not is_number(number) or number < 0 or number >= len(things):
            return False
    for place in range(1, len(thing)):
        # A number that stands twice does not rise either.
        if (things[thing[place - 1]], thing[place - 1]) >= (things[thing[place]], thing[place]):
            return False
    return True
