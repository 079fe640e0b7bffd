"""The refusals, one class each, all of them straight under MergeError."""


class MergeError(ValueError):
    """What every refusal is."""


class Full(MergeError):
    """No further row has a place."""


class NoRow(MergeError):
    """There is no row of that number."""


class OutOfOrder(MergeError):
    """In row `row` the key at `place` is less than the one ahead of it."""

    def __init__(self, row, place):
        MergeError.__init__(self, f"row {row}: the key at place {place} is less than the one ahead")
        self.row = row
        self.place = place


class BadLine(MergeError):
    """Row `line` of a sheet is not written as rows are."""

    def __init__(self, line):
        MergeError.__init__(self, f"line {line} of the sheet is not so written")
        self.line = line
