"""Nets: a layout that runs with a book."""

from partkeepers.errors import BadValue, HeldBack, Lacking, LineFull, NoCopy, NoLetter, NoLine, NotKept, TooEarly
from partkeepers.letters import Letter, carried, counted, pack

MOST_VALUE = 999999
MOST_LETTERS = 99


class Hold:
    """Holds a line of a net while a `with` statement uses it."""

    def __init__(self, net, line):
        self._net = net
        self.line = line
        self.on = False

    def __enter__(self):
        self.on = True
        self._net._add_hold(self)
        return self

    def __exit__(self, kind, value, trace):
        # LANGUAGE.md (L6) allows no removal from a list here. So the net looks
        # only at the holds that are on, and drops the others at the next hold.
        self.on = False


class Net:
    """The copies, the letters on the way between them, and what is counted."""

    def __init__(self, layout, book):
        # The book is read here and never again, so its later changes have no effect.
        self._layout = layout
        self._lines = layout.lines()
        self._carried = {line: carried(layout, book, line[0], line[1]) for line in self._lines}
        self._known = [{line: 0 for line in counted(layout, book, copy)} for copy in range(len(layout))]
        self._values = {(copy, key): 0 for copy, row in enumerate(layout) for key in row}
        # The letters are kept unpacked: the checks of `ready` read them often.
        self._queues = {line: [] for line in self._lines}
        self._taken = {line: 0 for line in self._lines}
        self._holds = []

    def __getitem__(self, at):
        copy, key = at
        if (copy, key) not in self._values:
            raise NotKept(copy, key)
        return self._values[copy, key]

    def __setitem__(self, at, worth):
        copy, key = at
        self.write(copy, key, worth)

    @property
    def waiting(self):
        """The number of letters on the way on all lines."""
        return sum([len(self._queues[line]) for line in self._lines])

    @property
    def back(self):
        """The list of the held lines, ascending."""
        return [line for line in self._lines if self._is_held(line)]

    def write(self, copy, key, value):
        """Write the value and return the list of the lines on which a letter was sent, ascending."""
        if (copy, key) not in self._values:
            raise NotKept(copy, key)
        if not 0 <= value <= MOST_VALUE:
            raise BadValue(value)
        lines = [(copy, taker) for taker in self._layout.keepers(key) if taker != copy]
        numbers = self._known[copy]
        # A copy's known number of a line that starts at it tells how many letters it has sent there.
        for line in lines:
            if numbers[line] >= MOST_LETTERS:
                raise LineFull(line[0], line[1])
        self._values[copy, key] = value
        # All numbers grow before the first letter is made, as a letter may carry the other lines, too.
        for line in lines:
            numbers[line] += 1
        for line in lines:
            self._send(line, key, value)
        return lines

    def take(self, sender, taker):
        """Take the first letter of the line and return its key and its value."""
        line = self._line(sender, taker)
        if self._is_held(line):
            raise HeldBack(sender, taker)
        queue = self._queues[line]
        if not queue:
            raise NoLetter(sender, taker)
        letter = queue[0]
        lacking = self._lacking_for(letter)
        if lacking:
            other, needed, present = lacking[0]
            raise TooEarly(sender, taker, lacking) from Lacking(other, needed, present)
        queue.pop(0)
        self._taken[line] += 1
        self._values[taker, letter.key] = letter.value
        self._learn(letter)
        return (letter.key, letter.value)

    def ready(self):
        """Yield the ready lines, ascending."""
        for line in self._lines:
            queue = self._queues[line]
            if queue and not self._is_held(line) and not self._lacking_for(queue[0]):
                yield line

    def settle(self):
        """Take letters until no line is ready, and return the list of their lines in order."""
        done = []
        lines = list(self.ready())
        while lines:
            sender, taker = lines[0]
            self.take(sender, taker)
            done.append((sender, taker))
            lines = list(self.ready())
        return done

    def on_way(self, sender, taker):
        """Return the list of the packed letters in the queue of the line."""
        return [pack(letter) for letter in self._queues[self._line(sender, taker)]]

    def known(self, copy):
        """Return the list of the lines that the copy counts with its known numbers, ascending."""
        self._check_copy(copy)
        return [(a, b, number) for (a, b), number in self._known[copy].items()]

    def taken(self, copy):
        """Return the list of the senders to the copy with the taken numbers of their lines, ascending."""
        self._check_copy(copy)
        return [(a, self._taken[a, b]) for a, b in self._lines if b == copy]

    def held(self, sender, taker):
        """Return a new Hold of the line."""
        return Hold(self, self._line(sender, taker))

    def _line(self, sender, taker):
        if (sender, taker) not in self._queues:
            raise NoLine(sender, taker)
        return (sender, taker)

    def _check_copy(self, copy):
        if not 0 <= copy < len(self._layout):
            raise NoCopy(copy)

    def _add_hold(self, hold):
        self._holds = [other for other in self._holds if other.on] + [hold]

    def _is_held(self, line):
        return line in [hold.line for hold in self._holds if hold.on]

    def _send(self, line, key, value):
        """Append a letter to the queue of the line."""
        sender, taker = line
        numbers = self._known[sender]
        counts = [(a, b, numbers[a, b]) for a, b in self._carried[line]]
        self._queues[line].append(Letter(sender, taker, key, value, counts))

    def _lacking_for(self, letter):
        """Return a tuple with `(a, number, taken)` for each line from `a` of which the taker lacks letters."""
        own = (letter.sender, letter.taker)
        needs = [(a, number, self._taken[a, b]) for a, b, number in letter.counts if b == own[1] and a != own[0]]
        return tuple([(a, number, present) for a, number, present in needs if number > present])

    def _learn(self, letter):
        """Raise the taker's known numbers to those that the letter carries."""
        numbers = self._known[letter.taker]
        for a, b, number in letter.counts:
            if b != letter.taker and number > numbers[a, b]:
                numbers[a, b] = number
