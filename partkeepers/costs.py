"""Costs: which counts a layout needs, what a further key changes, and how much is sent."""

from partkeepers.books import Book
from partkeepers.chains import chain_counts, chain_run, every_chain, write_count
from partkeepers.errors import BadKey
from partkeepers.layouts import KEYS
from partkeepers.letters import HEAD, carried, counted


def least_book(layout):
    """Return the book of the counts that the layout needs."""
    return Book([count for chain in every_chain(layout) for count in chain_counts(chain)])


def needs(layout):
    """Return a dict with, for each count of the least book, a run that shows why it is needed."""
    found = {}
    for chain in every_chain(layout):
        run = chain_run(layout, chain)
        for count in chain_counts(chain):
            if count not in found or write_count(run) < write_count(found[count]):
                found[count] = run
    # The book brings the counts into ascending order. One run may stand for several
    # counts, so each gets a list of its own.
    return {count: list(found[count]) for count in Book(list(found))}


def free_lines(layout):
    """Return the list of the lines that no copy needs to count, ascending."""
    needed = {(sender, taker): True for _, sender, taker in least_book(layout)}
    return [line for line in layout.lines() if line not in needed]


def key_cost(layout, copy, key):
    """Return two books: the counts needed only with the further key, and those needed only without it."""
    after = least_book(layout.with_key(copy, key))
    before = least_book(layout)
    return (after - before, before - after)


def best_keeper(layout, key):
    """Return the copy that can keep the key, too, with the fewest counts, or None if all keep it."""
    if key not in KEYS:
        raise BadKey(key)
    best = None
    fewest = 0
    for copy in range(len(layout)):
        if (copy, key) not in layout:
            many = len(least_book(layout.with_key(copy, key)))
            if best is None or many < fewest:
                best = copy
                fewest = many
    return best


def table(layout, book):
    """Return a text with the keys, the counted lines and the sent bytes of each copy and of all."""
    copies = range(len(layout))
    lines = [len(counted(layout, book, copy)) for copy in copies]
    sent = [_sent_bytes(layout, book, copy) for copy in copies]
    rows = [_row("copy", "keys", "lines", "bytes")]
    for copy, keys in enumerate(layout):
        rows.append(_row(copy, _digits(keys), lines[copy], sent[copy]))
    kept = [key for key in KEYS if layout.keepers(key)]
    rows.append(_row("all", _digits(kept), sum(lines), sum(sent)))
    return "\n".join(rows)


def _row(copy, keys, lines, sent):
    return f"{copy:>4} {keys:<8} {lines:>5} {sent:>5}"


def _digits(keys):
    return "".join([str(key) for key in keys]) or "-"


def _sent_bytes(layout, book, copy):
    """Return the number of bytes of the letters that the copy sends if it writes each of its keys once."""
    lines = [(a, b) for a, b in layout.lines() if a == copy]
    sizes = [HEAD + 2 * len(carried(layout, book, a, b)) for a, b in lines]
    # On a line goes one letter for each key that its two copies share.
    return sum([size * len(layout.shared(a, b)) for size, (a, b) in zip(sizes, lines)])
