"""Watched nets: which write led to which, and which writes a taking missed."""

from partkeepers.errors import NoWrite
from partkeepers.nets import Net


class WatchedNet(Net):
    """A net that remembers its writes."""

    def __init__(self, layout, book):
        super().__init__(layout, book)
        self._makers = []
        # Whatever a write of a copy leads to, all earlier writes of this copy
        # lead to as well. So one number for each copy is enough to tell what
        # led to a write: how many of the copy's writes are this one or lead to it.
        self._stamps = []
        self._seen = [[0] * len(layout) for _ in layout]
        # For each copy the writes of which it has not taken its letter, ascending.
        self._due = [[] for _ in layout]
        self._misses = []

    @property
    def misses(self):
        """The list of what the takings have missed: tuples of taker, write and missed write."""
        return list(self._misses)

    def write(self, copy, key, value):
        """Write as a net does, and remember the write."""
        lines = super().write(copy, key, value)
        number = len(self._makers)
        self._makers.append(copy)
        self._seen[copy][copy] += 1
        self._stamps.append(tuple(self._seen[copy]))
        for line in lines:
            self._due[line[1]].append(number)
        return lines

    def take(self, sender, taker):
        """Take as a net does, and note what the taking missed."""
        letter = super().take(sender, taker)
        due = self._due[taker]
        number = [made for made in due if self._makers[made] == sender][0]
        due.remove(number)
        self._misses.extend([(taker, number, missed) for missed in due if self._leads(missed, number)])
        self._see(taker, number)
        return letter

    def led(self, first, second):
        """Tell whether the first write leads to the second one."""
        for asked in (first, second):
            if not 0 <= asked < len(self._makers):
                raise NoWrite(asked)
        return self._leads(first, second)

    def _leads(self, first, second):
        maker = self._makers[first]
        return first != second and self._stamps[first][maker] <= self._stamps[second][maker]

    def _see(self, copy, number):
        """Let the write and all that led to it lead to the copy's next write."""
        seen = self._seen[copy]
        for maker, many in enumerate(self._stamps[number]):
            if many > seen[maker]:
                seen[maker] = many
