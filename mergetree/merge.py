"""The tree of matches: of many rows the next thing goes out, again and again."""

from mergetree.errors import Full, NoRow, OutOfOrder
from mergetree.halves import halves, way_up
from mergetree.likening import liken_from
from mergetree.rows import alikes, first_break

MOST_ROWS = 16


class Row:
    """The keys of a row, how far each is alike with the one ahead, and how many have gone out."""

    def __init__(self, keys):
        self.all_keys = list(keys)
        self.fars = alikes(keys)
        self.gone = 0

    def copied(self):
        """The same row, for another merge."""
        other = Row(self.all_keys)
        other.gone = self.gone
        return other

    def to_go(self):
        """How many haven't gone out."""
        return len(self.all_keys) - self.gone

    def head(self):
        """The key of what the row sends, None where all have gone out."""
        return self.all_keys[self.gone] if self.to_go() > 0 else None

    def lengthen(self, keys):
        """Puts keys behind the row's."""
        self.all_keys = self.all_keys + keys
        self.fars = alikes(self.all_keys)


class Merge:
    """Rows merged to one.

    A row sends one thing at a time, so within the tree its number stands for that thing. `stays` has
    for each match at which one stays its row, and how far it is alike with the one that was sent up.
    """

    def __init__(self, rows):
        self.rows = {}
        for number, keys in enumerate(rows):
            refuse_break(number, keys)
            self.rows[number] = Row(keys)
        self.next_number = len(rows)
        self.likened = 0
        self.looked = 0
        self.stays = {}
        self.best = None
        self.play_all()

    def coming(self):
        """The next thing, None where there is none."""
        if self.best is None:
            return None
        row = self.rows[self.best]
        return (self.best, row.gone, row.head())

    def take(self):
        """The next thing, which goes out, None where there is none."""
        thing = self.coming()
        if thing is not None:
            self.send_out(self.best)
        return thing

    def take_few(self, many):
        """The list of the next so many things, which go out; fewer where there are fewer."""
        things = []
        while len(things) < many and self.best is not None:
            things.append(self.take())
        return things

    def left(self):
        """How many things haven't gone out."""
        return sum([row.to_go() for row in self.rows.values()])

    def heads(self):
        """For each row that is there its number and the key of what it sends, or None."""
        return [(number, row.head()) for number, row in self.rows.items()]

    def likenings(self):
        """How many likenings there were so far."""
        return self.likened

    def looks(self):
        """How many looks there were so far."""
        return self.looked

    def twin(self):
        """A merge of its own that is the same in all."""
        other = Merge([])
        other.rows = {number: row.copied() for number, row in self.rows.items()}
        other.next_number = self.next_number
        other.likened = self.likened
        other.looked = self.looked
        other.stays = dict(self.stays)
        other.best = self.best
        return other

    def add_row(self, row):
        """One row more: tells its number."""
        number = self.next_number
        refuse_break(number, row)
        if len(self.rows) >= MOST_ROWS:
            raise Full(f"{len(self.rows)} rows are there")
        self.rows[number] = Row(row)
        self.next_number += 1
        self.play_all()
        return number

    def drop_row(self, n):
        """The row goes: tells how many of its things haven't gone out."""
        many = self.row_of(n).to_go()
        self.rows.pop(n)
        self.play_all()
        return many

    def grow(self, n, keys):
        """Puts keys behind those of row n."""
        row = self.row_of(n)
        refuse_break(n, row.all_keys + keys)
        sent_nothing = row.head() is None
        row.lengthen(keys)
        # What other rows send has met what this one sends; only one that sends anew has met none.
        if sent_nothing and len(keys) > 0:
            self.play_all()

    def row_of(self, n):
        """The row of a number, refused where there is none."""
        if n not in self.rows:
            raise NoRow(f"there is no row {n}")
        return self.rows[n]

    def play_all(self):
        """Plays the tree of the rows that are there from the lowest on, as at first."""
        self.stays = {}
        self.best = self.play(list(self.rows)) if len(self.rows) > 0 else None

    def play(self, numbers):
        """Plays the tree of these rows: tells the row whose thing is sent up, None where nothing is."""
        if len(numbers) == 1:
            return None if self.rows[numbers[0]].head() is None else numbers[0]
        first_side, other_side = halves(numbers)
        one = self.play(first_side)
        other = self.play(other_side)
        if one is None:
            return other
        if other is None:
            return one
        winner, loser, far = self.meet(one, other, 0)
        self.stays[(numbers[0], numbers[-1])] = (loser, far)
        return winner

    def send_out(self, number):
        """The next one, that of this row, goes out; the matches on its way up are played again."""
        row = self.rows[number]
        row.gone += 1
        # Beside what comes up stands how far it is alike with the one that goes out.
        comer = None if row.head() is None else (number, row.fars[row.gone])
        for meeting in matches_up(list(self.rows), number):
            comer = self.play_again(meeting, comer)
        self.best = None if comer is None else comer[0]

    def play_again(self, meeting, comer):
        """Plays a match of what comes up and what stays, both (row, far) or None: tells what is sent up."""
        stayer = self.stays.get(meeting)
        if stayer is None:
            return comer
        if comer is None:
            self.stays[meeting] = None
            return stayer
        if comer[1] == stayer[1]:
            winner, loser, far = self.meet(comer[0], stayer[0], comer[1])
            self.stays[meeting] = (loser, far)
            return (winner, comer[1])
        self.likened += 1
        # The one that leaves the goer earlier is the greater, and leaves the other one at that place too.
        if comer[1] > stayer[1]:
            return comer
        self.stays[meeting] = comer
        return stayer

    def meet(self, one, other, far):
        """Likens what two rows send, alike so far at least: tells the winner, the loser, how far alike."""
        order, alike_far, seen = liken_from(self.rows[one].head(), self.rows[other].head(), far)
        self.likened += 1
        self.looked += seen
        # The rows of a first side have the lesser numbers.
        if order < 0 or (order == 0 and one < other):
            return (one, other, alike_far)
        return (other, one, alike_far)


def refuse_break(number, keys):
    """Refuses keys out of order for the row of this number."""
    place = first_break(keys)
    if place is not None:
        raise OutOfOrder(number, place)


def matches_up(numbers, n):
    """The matches on the way from row n up, the lowest first, each by its least and its greatest row."""
    matches = []
    least = n
    greatest = n
    for others in way_up(numbers, n):
        least = min(least, others[0])
        greatest = max(greatest, others[-1])
        matches.append((least, greatest))
    return matches
