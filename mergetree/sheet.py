"""Sheets: rows of words that say what is done to a desk's merge, and what is asked."""

from mergetree.errors import BadLine, Full, OutOfOrder
from mergetree.merge import Merge
from mergetree.nearplans import near_plan
from mergetree.plans import free_plan
from mergetree.runs import runs_of
from mergetree.sorting import sort_by
from mergetree.words import NOTHING, read_word, with_blanks, written_numbers, written_thing

MOST_SIZES = 12

DONE = "done"
REFUSED = "refused"

# For each first word the kinds of the single words behind it, and the kind of all further ones, None of none.
FORMS = {
    "row": (("name",), "key"),
    "grow": (("name",), "key"),
    "drop": (("name",), None),
    "coming": ((), None),
    "take": (("many",), None),
    "left": ((), None),
    "counts": ((), None),
    "rows": ((), None),
    "runs": (("room",), "key"),
    "sort": (("room", "ways"), "key"),
    "free": (("ways",), "size"),
    "near": (("ways",), "size"),
}


class Desk:
    """A merge, and the numbers of its rows by their names."""

    def __init__(self):
        self.merge = Merge([])
        self.numbers = {}


def run(text):
    """The list of the answers to a sheet's rows."""
    # All rows are read ahead of the first answer, so that a bad one is refused ahead of it.
    orders = orders_in(text)
    desk = Desk()
    answers = []
    for word, singles, further in orders:
        deed = DEEDS[word]
        answers.append(deed(desk, singles, further))
    return answers


def orders_in(text):
    """What the rows of a sheet say, without the empty ones."""
    orders = []
    for line, row in enumerate(text.split("\n")):
        if row != "":
            order = order_in(row)
            if order is None:
                raise BadLine(line)
            orders.append(order)
    return orders


def order_in(row):
    """The first word of a row, what its single words tell, what all further ones do; None where not so written."""
    first, *others = row.split(" ")
    if first not in FORMS:
        return None
    single_kinds, further_kind = FORMS[first]
    many = len(single_kinds)
    if len(others) < many or not may_be_further(further_kind, len(others) - many):
        return None
    singles = [read_word(kind, word) for kind, word in zip(single_kinds, others)]
    further = [read_word(further_kind, word) for word in others[many:]]
    return None if None in singles or None in further else (first, singles, further)


def may_be_further(kind, many):
    """Whether there may be so many further words of a kind."""
    if kind is None:
        return many == 0
    return kind != "size" or 1 <= many <= MOST_SIZES


def do_row(desk, singles, keys):
    """A row comes, called so."""
    name = singles[0]
    if name in desk.numbers:
        return REFUSED
    try:
        desk.numbers[name] = desk.merge.add_row(keys)
    except (OutOfOrder, Full):
        return REFUSED
    return DONE


def do_grow(desk, singles, keys):
    """Keys stand behind those of the row that is called so."""
    name = singles[0]
    if name not in desk.numbers:
        return REFUSED
    try:
        desk.merge.grow(desk.numbers[name], keys)
    except OutOfOrder:
        return REFUSED
    return DONE


def do_drop(desk, singles, further):
    """The row that is called so goes, and its name is free again."""
    name = singles[0]
    if name not in desk.numbers:
        return REFUSED
    desk.merge.drop_row(desk.numbers.pop(name))
    return DONE


def ask_coming(desk, singles, further):
    """The next thing."""
    thing = desk.merge.coming()
    return with_blanks(written_things(desk, [] if thing is None else [thing]))


def ask_take(desk, singles, further):
    """The next so many things, which go out."""
    return with_blanks(written_things(desk, desk.merge.take_few(singles[0])))


def ask_left(desk, singles, further):
    """How many things haven't gone out."""
    return str(desk.merge.left())


def ask_counts(desk, singles, further):
    """How many likenings and looks there were so far."""
    return written_numbers([desk.merge.likenings(), desk.merge.looks()])


def ask_rows(desk, singles, further):
    """What each row sends."""
    return with_blanks(written_heads(desk, desk.merge.heads()))


def ask_runs(desk, singles, keys):
    """The runs of keys."""
    runs = [written_numbers(numbers) for numbers in runs_of(keys, singles[0])]
    return " ; ".join(runs) if len(runs) > 0 else NOTHING


def ask_sort(desk, singles, keys):
    """The numbers of keys in order."""
    numbers, cost = sort_by(keys, singles[0], singles[1])
    return written_numbers(numbers)


def ask_free(desk, singles, sizes):
    """The least cost of all trees."""
    return str(free_plan(sizes, singles[0])[0])


def ask_near(desk, singles, sizes):
    """The least cost of all near trees."""
    return str(near_plan(sizes, singles[0])[0])


def written_things(desk, things):
    """Things, tuples (row, place, key), written by the rows' names."""
    return written_heads(desk, [(row, key) for row, place, key in things])


def written_heads(desk, heads):
    """Heads, tuples (row, key), written by the rows' names."""
    names = {number: name for name, number in desk.numbers.items()}
    return [written_thing(names[row], key) for row, key in heads]


DEEDS = {
    "row": do_row,
    "grow": do_grow,
    "drop": do_drop,
    "coming": ask_coming,
    "take": ask_take,
    "left": ask_left,
    "counts": ask_counts,
    "rows": ask_rows,
    "runs": ask_runs,
    "sort": ask_sort,
    "free": ask_free,
    "near": ask_near,
}
