"""Slow searches along points [17] to [24], to compare the program with, and layouts to do it on."""

import random
from functools import lru_cache
from itertools import permutations

from model import Model, Refused

TRIANGLE = [[1, 0], [1, 2], [0, 2]]
SQUARE = [[0, 3], [0, 1], [1, 2], [2, 3]]
# Its chains have up to six copies.
HEXAGON = [[0, 5], [0, 1], [1, 2], [2, 3], [3, 4], [4, 5]]
ALL = list(permutations(range(6), 3))


def run_of(rows, chain):
    """Return the run of the chain, straight from point [18], or None if the tuple is no chain."""
    if len(chain) < 3 or len(set(chain)) < len(chain) or not set(chain) <= set(range(len(rows))):
        return None

    def keys(with_key, without_key):
        return {
            key
            for key in range(8)
            if all(key in rows[copy] for copy in with_key) and not any(key in rows[copy] for copy in without_key)
        }

    *c, k = chain
    m = len(c) - 1
    early = keys((c[0], k), c[2:])
    first = keys((c[0], c[1]), c[2:])
    handed = [keys((c[i], c[i + 1]), (k, *c[i + 2:])) for i in range(1, m)] + [keys((c[m], k), ())]
    if not (early and first and all(handed)):
        return None
    opening = [min(early & first)] if early & first else [min(early), min(first)]
    steps = [("write", c[0], key) for key in opening]
    for i in range(1, m + 1):
        steps += [("take", c[i - 1], c[i]), ("write", c[i], min(handed[i - 1]))]
    steps.append(("take", c[m], k))
    values = iter(range(1, len(steps)))
    return [(*step, next(values)) if step[0] == "write" else step for step in steps]


def tuples(rows, sender, taker):
    """Return all tuples from the sender to the taker that can be chains, in the order of point [18]'s interface."""
    others = [copy for copy in range(len(rows)) if copy not in (sender, taker)]
    return [
        (sender, *between, taker) for many in range(1, len(others) + 1) for between in permutations(others, many)
    ]


def chains_of(rows):
    """Return the list of all chains of the layout with these rows."""
    return list(_chains_of(tuple(tuple(row) for row in rows)))


@lru_cache(maxsize=None)
def _chains_of(rows):
    ends = list(permutations(range(len(rows)), 2))
    return [chain for line in ends for chain in tuples(rows, *line) if run_of(rows, chain) is not None]


def counts_of(chain):
    return {(copy, chain[0], chain[-1]) for copy in chain[1:-1]}


def least_of(rows):
    """Return the set of the counts of all chains."""
    return set().union(*[counts_of(chain) for chain in chains_of(rows)])


def writes_of(run):
    """Return how many writes the run has."""
    return sum(step[0] == "write" for step in run)


def takings(rows, counts, run):
    """Do the run on the slow model and return, for each of its steps, what it missed; Refused comes through."""
    model = Model(rows, counts)
    told = []
    for step in run:
        before = len(model.misses)
        getattr(model, step[0])(*step[1:])
        told.append(model.misses[before:])
    return told


def errs(rows, counts, run):
    """Tell whether the run errs (point [17])."""
    try:
        return any(takings(rows, counts, run))
    except Refused:
        return False


def until_early(rows, counts, run):
    """Return the run up to its first early taking; the whole run if there is none."""
    missed = takings(rows, counts, run)
    ends = [at for at, each in enumerate(missed) if each]
    return run[:ends[0] + 1] if ends else list(run)


def written(rows, run):
    """Return, for each step of the run, the number of its write or of the write of which it takes a letter."""
    queues, numbers, many = {}, [], 0
    for step in run:
        if step[0] == "write":
            for taker in range(len(rows)):
                queues.setdefault((step[1], taker), []).extend([many] if step[2] in rows[taker] else [])
            numbers.append(many)
            many += 1
        else:
            numbers.append(queues[step[1:]].pop(0))
    return numbers


def remains(rows, run, left_out):
    """Return what remains of the run when the writes with these numbers are left out (point [19])."""
    return [step for step, number in zip(run, written(rows, run)) if number not in left_out]


def run_by_chance(rows, counts, chance, many):
    """Return an allowed run of `many` steps or fewer, and whether it errs."""
    model = Model(rows, counts)
    writers = [copy for copy, row in enumerate(rows) if row]
    eager = chance.choice((0.2, 0.4, 0.6))
    run = []
    for _ in range(many):
        ready = model.ready()
        if ready and chance.random() > eager:
            step = ("take", *chance.choice(ready))
        elif writers:
            copy = chance.choice(writers)
            step = ("write", copy, chance.choice(sorted(rows[copy])), chance.randrange(1000000))
        else:
            break
        try:
            getattr(model, step[0])(*step[1:])
        except Refused:
            continue
        run.append(step)
    return run, bool(model.misses)


def any_keys(copies, chance):
    share = chance.choice((0.2, 0.35, 0.5, 0.7))
    return [[key for key in range(8) if chance.random() < share] for _ in range(copies)]


def two_keys(copies, chance):
    many = chance.randint(3, 8)
    return [chance.sample(range(many), 2) for _ in range(copies)]


def path(copies, chance):
    keys = chance.sample(range(8), copies - 1)
    return [keys[max(copy - 1, 0):copy + 1] for copy in range(copies)]


def star(copies, chance):
    keys = chance.sample(range(8), copies - 1)
    return [keys] + [[key] for key in keys]


def ring(copies, chance):
    keys = chance.sample(range(8), copies)
    return [[keys[copy - 1], keys[copy]] for copy in range(copies)]


def ring_with_more(copies, chance):
    rows = ring(copies, chance)
    for _ in range(chance.randint(1, 4)):
        chance.choice(rows).append(chance.randrange(8))
    return rows


def few_keys(copies, chance):
    many = chance.randint(1, 3)
    return [[key for key in range(many) if chance.random() < 0.6] for _ in range(copies)]


KINDS = (any_keys, two_keys, path, star, ring, ring_with_more, few_keys)


def some_layouts(each, seed=0, copies=(3, 4, 5, 6)):
    """Return rows of layouts: `each` of every kind with every number of copies, the copies in any order."""
    chance = random.Random(seed)
    found = []
    for kind in KINDS:
        for many in copies:
            for _ in range(each):
                rows = kind(many, chance)
                chance.shuffle(rows)
                found.append(rows)
    return found


def some_counts(rows, chance):
    """Return a list of counts, now and then those that the layout needs, or all of these but some."""
    least = sorted(least_of(rows))
    share = chance.choice((0.3, 0.7, 0.9))
    choices = (
        [],
        ALL,
        least,
        [count for count in least if chance.random() < share],
        [count for count in ALL if chance.random() < share],
        [count for count in least if count != chance.choice(least)],
    )
    return chance.choice(choices)
