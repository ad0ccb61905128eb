"""Layouts: which copy keeps which keys."""

from partkeepers.errors import BadKey, BadLayout, NoCopy, NotKept

KEYS = (0, 1, 2, 3, 4, 5, 6, 7)
COPIES = (0, 1, 2, 3, 4, 5)


class Layout:
    """The keys of each copy, in the order of the copies. A layout never changes."""

    def __init__(self, rows):
        if not 1 <= len(rows) <= len(COPIES):
            raise BadLayout(f"a layout has 1 to 6 rows, not {len(rows)}")
        self._rows = tuple([_kept(row) for row in rows])

    def __len__(self):
        return len(self._rows)

    def __getitem__(self, at):
        # Python itself would count a negative number from the end.
        if not 0 <= at < len(self._rows):
            raise NoCopy(at)
        return self._rows[at]

    def __contains__(self, x):
        copy, key = x
        return 0 <= copy < len(self._rows) and key in self._rows[copy]

    def __iter__(self):
        return iter(self._rows)

    def __eq__(self, other):
        return isinstance(other, Layout) and self._rows == other._rows

    def lines(self):
        """Return the list of all lines, ascending."""
        copies = range(len(self._rows))
        pairs = [(sender, taker) for sender in copies for taker in copies if sender != taker]
        return [(sender, taker) for sender, taker in pairs if self.shared(sender, taker)]

    def shared(self, first, second):
        """Return the keys that both copies keep, ascending."""
        mine = self[first]
        theirs = self[second]
        return tuple([key for key in mine if key in theirs])

    def keepers(self, key):
        """Return the list of the copies that keep the key, ascending."""
        return [copy for copy, row in enumerate(self._rows) if key in row]

    def with_key(self, copy, key):
        """Return a layout in which the copy keeps the key, too."""
        # The new layout itself refuses a wrong key, as all its other keys are right.
        return self._with_row(copy, self[copy] + (key,))

    def without_key(self, copy, key):
        """Return a layout in which the copy does not keep the key."""
        if (copy, key) not in self:
            raise NotKept(copy, key)
        return self._with_row(copy, [kept for kept in self[copy] if kept != key])

    def _with_row(self, copy, row):
        rows = list(self._rows)
        rows[copy] = row
        return Layout(rows)


def _kept(row):
    """Return the keys of a row, ascending and each once, or refuse a wrong key."""
    for key in row:
        if key not in KEYS:
            raise BadKey(key)
    return tuple([key for key in KEYS if key in row])
