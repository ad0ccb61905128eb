"""The errors of the program, one class for each kind of failure."""


class KeeperError(ValueError):
    """The base class of all errors that the program raises."""


class BadLayout(KeeperError):
    """A layout has no row or more than six rows."""


class BadKey(KeeperError):
    """A key is not from 0 to 7."""

    def __init__(self, key):
        super().__init__(f"{key} is no key")
        self.key = key


class NoCopy(KeeperError):
    """The layout has no such copy."""

    def __init__(self, copy):
        super().__init__(f"there is no copy {copy}")
        self.copy = copy


class NotKept(KeeperError):
    """The copy does not keep the key, or there is no such copy or key."""

    def __init__(self, copy, key):
        super().__init__(f"copy {copy} does not keep key {key}")
        self.copy = copy
        self.key = key


class BadCount(KeeperError):
    """A tuple is not three different numbers from 0 to 5."""

    def __init__(self, triple):
        super().__init__(f"{triple} is no count")
        self.triple = triple


class BadValue(KeeperError):
    """A value is not from 0 to 999999."""

    def __init__(self, value):
        super().__init__(f"{value} is no value")
        self.value = value


class BadLetter(KeeperError):
    """Bytes are not a packed letter."""


class Lacking(KeeperError):
    """The cause of TooEarly: the taker has not taken enough letters from another copy."""

    def __init__(self, other, needed, present):
        super().__init__(f"{needed} letters from copy {other} are needed, {present} are taken")
        self.other = other
        self.needed = needed
        self.present = present


class LineError(KeeperError):
    """The base class of the errors that belong to a line."""

    def __init__(self, sender, taker):
        super().__init__(f"line ({sender}, {taker})")
        self.sender = sender
        self.taker = taker


class NoLine(LineError):
    """The two numbers are not a line of the layout."""


class HeldBack(LineError):
    """Nothing can be taken from the line while it is held."""


class NoLetter(LineError):
    """No letter is on the way on the line."""


class LineFull(LineError):
    """The line has had as many letters as it may have."""


class TooEarly(LineError):
    """The first letter of the line may not be taken yet."""

    def __init__(self, sender, taker, lacking):
        super().__init__(sender, taker)
        self.lacking = lacking


class NoChain(KeeperError):
    """A tuple is not a chain of the layout."""

    def __init__(self, chain):
        super().__init__(f"{chain} is no chain")
        self.chain = chain


class NoWrite(KeeperError):
    """No write has this number."""

    def __init__(self, asked):
        super().__init__(f"there is no write {asked}")
        self.asked = asked


class NoMiss(KeeperError):
    """No taking of a run is early."""
