"""Letters: what a letter carries, and how it is packed."""

from partkeepers.errors import BadLetter, NoLine

# How many digits of a packed letter stand before the numbers of its counts.
HEAD = 9


class Letter:
    """A letter about one write, for one taker."""

    def __init__(self, sender, taker, key, value, counts):
        self.sender = sender
        self.taker = taker
        self.key = key
        self.value = value
        self.counts = tuple(counts)

    @property
    def number(self):
        """The letter's own number: the one that it carries for its own line."""
        own = (self.sender, self.taker)
        return [count[2] for count in self.counts if count[:2] == own][0]


def counted(layout, book, copy):
    """Return the list of the lines that the copy counts, ascending."""
    return [(a, b) for a, b in layout.lines() if a == copy or (copy, a, b) in book]


def carried(layout, book, sender, taker):
    """Return the list of the carried lines of a line, ascending."""
    if (sender, taker) not in layout.lines():
        raise NoLine(sender, taker)
    return [(a, b) for a, b in counted(layout, book, sender) if b == taker or (taker, a, b) in book]


def pack(letter):
    """Return the packed letter: bytes of ASCII digits."""
    head = f"{letter.sender}{letter.taker}{letter.key}{letter.value:06d}"
    numbers = "".join([f"{count[2]:02d}" for count in letter.counts])
    return (head + numbers).encode("ascii")


def unpack(layout, book, data):
    """Return the letter that the bytes pack."""
    # Of bytes, unlike of strings, `isdigit` takes ASCII digits alone.
    if len(data) < HEAD or not data.isdigit():
        raise BadLetter("a packed letter has nine or more digits and nothing else")
    text = data.decode("ascii")
    sender, taker, key = int(text[0]), int(text[1]), int(text[2])
    if (sender, taker) not in layout.lines():
        raise BadLetter(f"({sender}, {taker}) is no line")
    if key not in layout.shared(sender, taker):
        raise BadLetter(f"copies {sender} and {taker} do not both keep key {key}")
    counts = _read_counts(carried(layout, book, sender, taker), text[HEAD:])
    letter = Letter(sender, taker, key, int(text[3:HEAD]), counts)
    if letter.number == 0:
        raise BadLetter("the letter's own number is 0")
    return letter


def _read_counts(lines, digits):
    """Return the counts with the numbers of the lines, which stand in the digits in order."""
    if len(digits) != 2 * len(lines):
        raise BadLetter(f"{len(lines)} numbers do not fit {len(digits)} digits")
    numbers = [int(digits[at:at + 2]) for at in range(0, len(digits), 2)]
    return [(a, b, number) for (a, b), number in zip(lines, numbers)]
