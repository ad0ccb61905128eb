"""Books: sets of counts."""

from partkeepers.errors import BadCount
from partkeepers.layouts import COPIES


class Book:
    """A set of counts. Only |= and -= change it."""

    def __init__(self, counts=()):
        for triple in counts:
            if not _is_count(triple):
                raise BadCount(triple)
        self._counts = _ascending(counts)

    @classmethod
    def full(cls, layout):
        """Return the book of all counts that have an effect with the layout."""
        lines = layout.lines()
        return cls([count for count in _every_count() if count[0] < len(layout) and count[1:] in lines])

    def __len__(self):
        return len(self._counts)

    def __contains__(self, x):
        return x in self._counts

    def __iter__(self):
        return iter(self._counts)

    def __eq__(self, other):
        return isinstance(other, Book) and self._counts == other._counts

    def __le__(self, other):
        return all([count in other._counts for count in self._counts])

    def __lt__(self, other):
        return self <= other and len(self._counts) < len(other._counts)

    def __or__(self, other):
        return Book(list(self._counts) + list(other._counts))

    def __and__(self, other):
        return Book([count for count in self._counts if count in other._counts])

    def __sub__(self, other):
        return Book([count for count in self._counts if count not in other._counts])

    def __xor__(self, other):
        return (self - other) | (other - self)

    def __ior__(self, other):
        self._counts = _ascending(list(self._counts) + list(other._counts))
        return self

    def __isub__(self, other):
        self._counts = {count: True for count in self._counts if count not in other._counts}
        return self

    def lines_of(self, copy):
        """Return the list of the lines that the copy counts in this book, ascending."""
        return [(sender, taker) for counter, sender, taker in self._counts if counter == copy]


def joined(*books):
    """Return a new book with the counts of all the books."""
    return Book([count for book in books for count in book])


def _is_count(triple):
    """Tell whether the tuple is three different numbers from 0 to 5."""
    return len(set(triple)) == 3 and all([number in COPIES for number in triple])


def _ascending(counts):
    """Return a dict with the counts as its keys, in ascending order."""
    # Books define `<`, and beside it LANGUAGE.md (L5) allows `sorted` only for
    # numbers and strings. So the order comes from going over all counts.
    wanted = {count: True for count in counts}
    return {count: True for count in _every_count() if count in wanted}


def _every_count():
    """Return the list of all counts that there are, ascending."""
    pairs = [(sender, taker) for sender in COPIES for taker in COPIES if sender != taker]
    return [(copy, sender, taker) for copy in COPIES for sender, taker in pairs if copy not in (sender, taker)]
