"""Chains: the short ways on which a letter overtakes another one if a count is missing."""

from partkeepers.errors import NoChain

# No chain has a run with more writes than the largest layout has copies.
MOST_WRITES = 6


def chains(layout, sender, taker):
    """Yield all chains from the sender to the taker: shorter ones first, those of one length ascending."""
    if (sender, taker) not in layout.lines():
        return
    others = [copy for copy in range(len(layout)) if copy != sender]
    # Which keys a copy may write depends on the copies after it alone. So the
    # chains grow at their front, and this also keeps them in ascending order.
    ends = [(taker,)]
    while ends:
        ends = [(copy,) + end for copy in others for end in ends if copy not in end and _link_keys(layout, copy, end)]
        for end in ends:
            if _opening_keys(layout, sender, end):
                yield (sender,) + end


def every_chain(layout):
    """Return the list of all chains of the layout."""
    return [chain for sender, taker in layout.lines() for chain in chains(layout, sender, taker)]


def chain_counts(chain):
    """Return the list of the counts of the chain."""
    return [(copy, chain[0], chain[-1]) for copy in chain[1:-1]]


def chain_run(layout, chain):
    """Return the run of the chain, which errs if a count of the chain is missing."""
    if not _are_copies(layout, chain):
        raise NoChain(chain)
    opening = _opening_keys(layout, chain[0], chain[1:])
    links = [_link_keys(layout, chain[at], chain[at + 1:]) for at in range(1, len(chain) - 1)]
    if not opening or [] in links:
        raise NoChain(chain)
    steps = [("write", chain[0], key, value) for value, key in enumerate(opening, start=1)]
    for at, keys in enumerate(links, start=1):
        steps.append(("take", chain[at - 1], chain[at]))
        steps.append(("write", chain[at], keys[0], len(opening) + at))
    steps.append(("take", chain[-2], chain[-1]))
    return steps


def write_count(run):
    """Return how many writes the run has."""
    return len([step for step in run if step[0] == "write"])


def erring_run(layout, book, *, most=MOST_WRITES):
    """Return a run with the fewest writes that errs, or None if it would need more than `most` writes."""
    found = None
    fewest = most + 1
    for chain in every_chain(layout):
        if not _has_counts(book, chain):
            run = chain_run(layout, chain)
            if write_count(run) < fewest:
                found = run
                fewest = write_count(run)
    return found


def is_safe(layout, book):
    """Tell whether no run errs with the layout and the book."""
    return all([_has_counts(book, chain) for chain in every_chain(layout)])


def _has_counts(book, chain):
    """Tell whether the book contains all counts of the chain."""
    return all([count in book for count in chain_counts(chain)])


def _are_copies(layout, chain):
    """Tell whether the tuple is three or more different copies of the layout."""
    different = len(set(chain)) == len(chain)
    return different and len(chain) >= 3 and all([0 <= copy < len(layout) for copy in chain])


def _opening_keys(layout, copy, end):
    """Return the list of the keys that the first copy of a chain with this end writes, empty if it cannot begin one."""
    hidden = [key for key in layout[copy] if not _keeps_any(layout, end[1:-1], key)]
    early = [key for key in hidden if (end[-1], key) in layout]
    first = [key for key in hidden if (end[0], key) in layout]
    both = [key for key in early if key in first]
    if both:
        return both[:1]
    return [early[0], first[0]] if early and first else []


def _link_keys(layout, copy, end):
    """Return the list of the keys with which the copy can stand before this end of a chain, ascending.

    These are its inner keys or, before the taker alone, its last keys.
    """
    return [key for key in layout.shared(copy, end[0]) if not _keeps_any(layout, end[1:], key)]


def _keeps_any(layout, copies, key):
    """Tell whether at least one of the copies keeps the key."""
    return any([(copy, key) in layout for copy in copies])
