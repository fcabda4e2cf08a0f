"""Kept: rows that come and go, and what is listed by those that stand."""

from whoholds.errors import NoRow
from whoholds.tables import least


class Kept:
    """Rows in order, none at first."""

    def __init__(self):
        self._rows = ()
        self._table = {}

    def put_in(self, row):
        """Put in a row behind the others; the holdings that are listed now and weren't."""
        before = self._table
        self._stand(self._rows + (row,))
        return _only_in(self._table, before)

    def take_out(self, row):
        """Take out the last one of a row; the holdings that are listed no more."""
        numbers = [number for number, other in enumerate(self._rows) if other == row]
        if not numbers:
            raise NoRow("no such row stands")
        last = numbers[-1]
        before = self._table
        self._stand(self._rows[:last] + self._rows[last + 1:])
        return _only_in(before, self._table)

    def rows(self):
        """The rows that stand, in order."""
        return self._rows

    def lists(self, name):
        """The boxes that a name lists now."""
        return list(self._table.get(("name", name), []))

    def _stand(self, rows):
        """Let these rows be the ones that stand."""
        self._table = least(rows)
        self._rows = rows


def _only_in(table, other):
    """The holdings that one table lists and the other doesn't, rising."""
    return sorted([(place, box) for place in table for box in table[place] if box not in other.get(place, [])])
