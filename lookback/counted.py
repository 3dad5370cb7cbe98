"""Counted: a look kept by its counts while the tables change."""

from lookback.changes import changed, is_change
from lookback.counting import pairs_of, take_in, tally_of
from lookback.errors import NoChange


class Counted:
    """A look, its rows and their counts as they are by now."""

    def __init__(self, schema, filling, look):
        self.schema = schema
        self.now = filling
        self.tally = tally_of(schema, filling, look)

    def rows(self):
        """The rising tuple of the rows of the look."""
        return tuple([row for row, count in self.counts()])

    def counts(self):
        """The rising tuple of pairs (row, count) of the look."""
        return pairs_of(self.tally)

    def filling(self):
        """The filling behind all changes."""
        return self.now

    def change(self, change):
        """Do a change of the filling; told is the pair of the rows of the look that went and came."""
        if not is_change(self.schema, self.now, change):
            raise NoChange()
        self.now = changed(self.schema, self.now, change)
        return take_in(self.tally, counts_behind(change))


def counts_behind(change):
    """The dict from the names of tables to the dicts from the rows that a change touches to their counts then."""
    found = {}
    for name, key, before, after in change:
        shift = found.setdefault(name, {})
        if before is not None:
            shift[before] = 0
        if after is not None:
            shift[after] = 1
    return found
