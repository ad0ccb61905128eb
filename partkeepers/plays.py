"""Plays: steps that are done on a net, and runs that are told and shortened."""

from partkeepers.errors import KeeperError, NoMiss
from partkeepers.nets import Net
from partkeepers.watches import WatchedNet


def play(net, steps):
    """Do the steps in order and return the list of the lines from which letters were taken, in order."""
    lines = []
    for step in steps:
        lines.extend(_do(net, step))
    return lines


def trace(layout, book, steps):
    """Return, for each step, the list of the lines that are ready after it; refused steps are skipped."""
    net = Net(layout, book)
    told = []
    for step in steps:
        try:
            _do(net, step)
        except KeeperError:
            pass
        told.append(list(net.ready()))
    return told


def shrink(layout, book, steps):
    """Return what is left of a run that errs when as many writes as possible are left out."""
    net = WatchedNet(layout, book)
    play(net, steps)
    if not net.misses:
        raise NoMiss("no taking of the run is early")
    taker, last, _ = net.misses[0]
    missed = [made for copy, write, made in net.misses if (copy, write) == (taker, last)]
    numbers, befores = _number_writes(layout, steps)
    # Of the writes on a shortest way none can be left out: without it no missed
    # write leads to the last one any more.
    way = _shortest_way(befores, last, missed)
    kept = []
    for step, number in zip(steps, numbers):
        if number in way:
            kept.append(step)
        if number == last and step[0] == "take" and step[2] == taker:
            break
    return kept


def _do(net, step):
    """Do one step and return the list of the lines from which it took letters, in order."""
    if step[0] == "write":
        net.write(step[1], step[2], step[3])
        return []
    if step[0] == "take":
        net.take(step[1], step[2])
        return [(step[1], step[2])]
    if step[0] == "settle":
        return net.settle()
    with net.held(step[1], step[2]):
        lines = play(net, step[3])
    return lines


def _number_writes(layout, steps):
    """Return two lists about an allowed run of write and take steps.

    The first one has, for each step, the number of its write or of the write of
    which it takes a letter. The second one has, for each write, the list of the
    writes that its copy had made, or had taken a letter of, before.
    """
    queues = {line: [] for line in layout.lines()}
    met = [[] for _ in layout]
    numbers = []
    befores = []
    for step in steps:
        if step[0] == "write":
            copy = step[1]
            number = len(befores)
            befores.append(list(met[copy]))
            for taker in layout.keepers(step[2]):
                if taker != copy:
                    queues[copy, taker].append(number)
        else:
            copy = step[2]
            number = queues[step[1], copy].pop(0)
        met[copy].append(number)
        numbers.append(number)
    return numbers, befores


def _shortest_way(befores, last, goals):
    """Return the fewest writes over which one of the goals leads to the last write, both included."""
    ways = {last: [last]}
    todo = [last]
    while todo[0] not in goals:
        number = todo.pop(0)
        for before in befores[number]:
            if before not in ways:
                ways[before] = ways[number] + [before]
                todo.append(before)
    return ways[todo[0]]
