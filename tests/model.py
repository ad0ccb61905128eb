"""A slow model of nets, written along points [7] to [16], to compare the program with."""


class Refused(Exception):
    """A call of the model is refused: the name of the error, its fields, and the fields of its cause."""

    def __init__(self, name, fields, cause=None):
        super().__init__(name)
        self.told = (name, fields, cause)


def lines_of(rows):
    """Return the lines of the layout with these rows."""
    copies = range(len(rows))
    return [(a, b) for a in copies for b in copies if a != b and set(rows[a]) & set(rows[b])]


def carried_lines(rows, counts, sender, taker):
    """Return the carried lines of the line, straight from point [7]."""
    found = []
    for a, b in lines_of(rows):
        first = a == sender or (sender, a, b) in counts
        second = b == taker or (taker, a, b) in counts
        if first and second:
            found.append((a, b))
    return found


class Model:
    """A watched net, with everything in plain sets and dicts and nothing computed ahead."""

    def __init__(self, rows, counts):
        self.rows = [sorted(set(row)) for row in rows]
        self.counts = set(counts)
        self.lines = lines_of(rows)
        self.values = {(copy, key): 0 for copy, row in enumerate(rows) for key in row}
        self.queues = {line: [] for line in self.lines}
        self.numbers = {}
        self.took = {line: 0 for line in self.lines}
        self.holds = []
        self.writes = []
        self.had = [set() for _ in rows]
        self.misses = []

    def counts_line(self, copy, line):
        return line[0] == copy or (copy, *line) in self.counts

    def number(self, copy, line):
        return self.numbers.get((copy, line), 0)

    def write(self, copy, key, value):
        if (copy, key) not in self.values:
            raise Refused("NotKept", {"copy": copy, "key": key})
        if value < 0 or value > 999999:
            raise Refused("BadValue", {"value": value})
        lines = [line for line in self.lines if line[0] == copy and key in self.rows[line[1]]]
        for line in lines:
            if self.took[line] + len(self.queues[line]) == 99:
                raise Refused("LineFull", {"sender": line[0], "taker": line[1]})
        self.values[copy, key] = value
        for line in lines:
            self.numbers[copy, line] = self.number(copy, line) + 1
        write = len(self.writes)
        self.writes.append((copy, key, set(self.had[copy])))
        self.had[copy].add(write)
        for line in lines:
            counts = [(*far, self.number(copy, far)) for far in carried_lines(self.rows, self.counts, *line)]
            self.queues[line].append((write, key, value, counts))
        return lines

    def lacking(self, line):
        sender, taker = line
        counts = self.queues[line][0][3]
        return tuple(
            (a, number, self.took[a, b])
            for a, b, number in counts
            if b == taker and a != sender and number > self.took[a, b]
        )

    def take(self, sender, taker):
        line = (sender, taker)
        fields = {"sender": sender, "taker": taker}
        if line not in self.lines:
            raise Refused("NoLine", fields)
        if line in self.holds:
            raise Refused("HeldBack", fields)
        if not self.queues[line]:
            raise Refused("NoLetter", fields)
        lacking = self.lacking(line)
        if lacking:
            other, needed, present = lacking[0]
            cause = {"other": other, "needed": needed, "present": present}
            raise Refused("TooEarly", {**fields, "lacking": lacking}, cause)
        write, key, value, counts = self.queues[line].pop(0)
        self.took[line] += 1
        self.values[taker, key] = value
        for a, b, number in counts:
            if b != taker:
                self.numbers[taker, (a, b)] = max(number, self.number(taker, (a, b)))
        self.note_misses(taker, write)
        self.had[taker].add(write)
        return (key, value)

    def note_misses(self, taker, write):
        for missed, (maker, key, _) in enumerate(self.writes):
            waits = missed in [letter[0] for letter in self.queues.get((maker, taker), [])]
            if self.leads(missed, write) and key in self.rows[taker] and maker != taker and waits:
                self.misses.append((taker, write, missed))

    def leads(self, first, second):
        """Tell whether a way of direct steps leads from the first write to the second one."""
        reached, todo = set(), [second]
        while todo:
            before = self.writes[todo.pop()][2] - reached
            reached |= before
            todo.extend(before)
        return first in reached

    def ready(self):
        return [line for line in self.lines if line not in self.holds and self.queues[line] and not self.lacking(line)]

    def settle(self):
        done = []
        while self.ready():
            done.append(self.ready()[0])
            self.take(*done[-1])
        return done

    def state(self):
        """Return all that a plain net shows, in the form of `shown` below."""
        copies = range(len(self.rows))
        return {
            "values": self.values,
            "on_way": {line: [self.packed(line, letter) for letter in self.queues[line]] for line in self.lines},
            "known": [
                [(*line, self.number(copy, line)) for line in self.lines if self.counts_line(copy, line)]
                for copy in copies
            ],
            "taken": [[(line[0], self.took[line]) for line in self.lines if line[1] == copy] for copy in copies],
            "ready": self.ready(),
            "waiting": sum(len(queue) for queue in self.queues.values()),
            "back": [line for line in self.lines if line in self.holds],
        }

    def packed(self, line, letter):
        _, key, value, counts = letter
        text = str(line[0]) + str(line[1]) + str(key) + str(value).zfill(6)
        return (text + "".join(str(count[2]).zfill(2) for count in counts)).encode()


def shown(net, rows):
    """Return all that a net shows, so that two states can be compared."""
    copies = range(len(rows))
    lines = lines_of(rows)
    return {
        "values": {(copy, key): net[copy, key] for copy in copies for key in rows[copy]},
        "on_way": {line: net.on_way(*line) for line in lines},
        "known": [net.known(copy) for copy in copies],
        "taken": [net.taken(copy) for copy in copies],
        "ready": list(net.ready()),
        "waiting": net.waiting,
        "back": net.back,
    }
