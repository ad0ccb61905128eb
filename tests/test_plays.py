"""Tests of partkeepers.plays: points [20] to [22]."""

import copy as copies_of
import random
import unittest

from model import Model, Refused, shown
from search import ALL, SQUARE, TRIANGLE, errs, least_of, remains, run_by_chance, run_of, some_counts, some_layouts
from search import until_early, writes_of, written
from test_nets import fields, outcome

from partkeepers.books import Book
from partkeepers.chains import chain_run, chains, erring_run
from partkeepers.errors import BadValue, HeldBack, KeeperError, LineFull, NoLetter, NoLine, NoMiss, NotKept, TooEarly
from partkeepers.layouts import Layout
from partkeepers.nets import Net
from partkeepers.plays import play, shrink, trace
from partkeepers.watches import WatchedNet

# The run of the chain (0, 1, 2) of the triangle.
OVERTAKING = [("write", 0, 0, 1), ("write", 0, 1, 2), ("take", 0, 1), ("write", 1, 2, 3), ("take", 1, 2)]
LAYOUTS = [rows for rows in some_layouts(2, seed=3) if any(rows)]


def play_slowly(model, steps):
    """Play the steps on the slow model, straight from point [20]."""
    lines = []
    for step in steps:
        if step[0] == "write":
            model.write(*step[1:])
        elif step[0] == "take":
            model.take(*step[1:])
            lines.append(step[1:])
        elif step[0] == "settle":
            lines += model.settle()
        else:
            line = step[1:3]
            if line not in model.lines:
                raise Refused("NoLine", {"sender": line[0], "taker": line[1]})
            model.holds.append(line)
            try:
                lines += play_slowly(model, step[3])
            finally:
                model.holds.remove(line)
    return lines


def nested(lines, steps):
    """Return a hold step around the steps, one for each of the lines, the first one outermost."""
    for line in reversed(lines):
        steps = [("hold", *line, steps)]
    return steps[0]


def flat(steps):
    """Return how many steps there are, inner ones included, and how deep hold steps are nested."""
    many, deep = 0, 0
    for step in steps:
        inner = flat(step[3]) if step[0] == "hold" else (0, -1)
        many += 1 + inner[0]
        deep = max(deep, inner[1] + 1)
    return many, deep


class PlayCase(unittest.TestCase):
    def make(self, rows, counts=()):
        return Net(Layout(rows), Book(counts))

    def check(self, rows, counts, steps, net=None):
        """Check a play against the slow model and return what it gave."""
        before = copies_of.deepcopy(steps)
        model = Model(rows, counts)
        told = []
        for kind in (Net, WatchedNet):
            net = kind(Layout(rows), Book(counts))
            told.append(outcome(play, net, steps))
            self.assertEqual(steps, before)
            self.assertEqual(net.back, [])
            nets = (shown(net, rows), told[-1])
        self.assertEqual(told[0], told[1])
        self.assertEqual(outcome(play_slowly, model, steps), told[0])
        self.assertEqual((model.state(), told[0]), nets)
        self.assertEqual(net.misses, model.misses)
        return told[0]


class PlayTest(PlayCase):
    def test_stands_in_its_file(self):
        for function in (play, trace, shrink):
            self.assertEqual(function.__module__, "partkeepers.plays")

    def test_examples_of_nets_and_watches(self):
        layout = Layout(TRIANGLE)
        net = Net(layout, Book.full(layout))
        self.assertEqual(play(net=net, steps=OVERTAKING[:4]), [(0, 1)])
        with self.assertRaises(TooEarly) as caught:
            net.take(1, 2)
        self.assertEqual(vars(caught.exception), {"sender": 1, "taker": 2, "lacking": ((0, 1, 0),)})
        net = WatchedNet(layout, Book())
        self.assertEqual(play(net, OVERTAKING), [(0, 1), (1, 2)])
        self.assertEqual(net.misses, [(2, 2, 0)])

    def test_no_steps(self):
        self.assertEqual(self.check(TRIANGLE, ALL, []), [])
        self.assertEqual(self.check(TRIANGLE, ALL, [("settle",)]), [])
        self.assertEqual(self.check(TRIANGLE, ALL, [("hold", 0, 1, [])]), [])
        self.assertEqual(self.check([[]], ALL, [("settle",), ("settle",)]), [])

    def test_writes_and_takes(self):
        for counts in ((), ALL):
            self.assertEqual(self.check(TRIANGLE, counts, OVERTAKING[:4]), [(0, 1)])
        steps = OVERTAKING[:4] + [("take", 0, 2), ("take", 1, 2)]
        self.assertEqual(self.check(TRIANGLE, ALL, steps), [(0, 1), (0, 2), (1, 2)])

    def test_settle_steps(self):
        steps = [("write", 0, 0, 1), ("write", 0, 1, 2), ("settle",), ("write", 1, 2, 3), ("settle",)]
        self.assertEqual(self.check(TRIANGLE, ALL, steps), [(0, 1), (0, 2), (1, 2)])
        steps = OVERTAKING[:4] + [("settle",), ("settle",), ("write", 0, 0, 4), ("take", 0, 2)]
        self.assertEqual(self.check(TRIANGLE, ALL, steps), [(0, 1), (0, 2), (1, 2), (0, 2)])

    def test_hold_steps(self):
        steps = OVERTAKING[:2] + [("hold", 0, 2, [("settle",), ("write", 1, 2, 3), ("settle",)]), ("settle",)]
        self.assertEqual(self.check(TRIANGLE, ALL, steps), [(0, 1), (0, 2), (1, 2)])
        self.assertEqual(self.check(TRIANGLE, (), steps), [(0, 1), (1, 2), (0, 2)])

    def test_lines_of_inner_steps_stand_in_order(self):
        steps = [("write", copy, key, 5) for copy, row in enumerate(SQUARE) for key in row]
        steps.append(("take", 0, 1))
        steps.append(("hold", 1, 2, [("take", 2, 3), ("hold", 3, 0, [("settle",)]), ("take", 3, 0)]))
        steps.append(("take", 1, 2))
        self.assertEqual(self.check(SQUARE, (), steps), [
            (0, 1), (2, 3), (0, 3), (1, 0), (2, 1), (3, 2), (3, 0), (1, 2)
        ])

    def test_a_line_is_held_only_inside(self):
        write = ("write", 0, 0, 1)
        self.assertEqual(self.check(TRIANGLE, (), [("hold", 0, 2, [write]), ("take", 0, 2)]), [(0, 2)])
        self.assertEqual(self.check(TRIANGLE, (), [write, ("hold", 0, 1, [("take", 0, 2)])]), [(0, 2)])
        told = self.check(TRIANGLE, (), [write, ("hold", 0, 2, [("take", 0, 2)])])
        self.assertEqual(told, ("HeldBack", {"sender": 0, "taker": 2}, None))
        told = self.check(TRIANGLE, (), [write, ("hold", 0, 2, [("hold", 0, 1, []), ("take", 0, 2)])])
        self.assertEqual(told, ("HeldBack", {"sender": 0, "taker": 2}, None))

    def test_the_same_line_within_one_another(self):
        for deep in range(1, 6):
            inner = nested([(0, 2)] * deep, [("write", 0, 0, 1), ("settle",)])
            self.assertEqual(self.check(TRIANGLE, (), [inner]), [])
            self.assertEqual(self.check(TRIANGLE, (), [inner, ("settle",)]), [(0, 2)])
            # The inner holds have ended, but the outer one has not.
            steps = [("hold", 0, 2, [inner, ("settle",), ("take", 0, 2)]), ("settle",)]
            self.assertEqual(self.check(TRIANGLE, (), steps)[0], "HeldBack")

    def test_five_deep(self):
        lines = [(0, 1), (1, 2), (2, 0), (1, 0), (2, 1)]
        writes = [("write", copy, key, 5) for copy, row in enumerate(TRIANGLE) for key in row]
        steps = [nested(lines, [*writes, ("settle",)]), ("settle",)]
        self.assertEqual(flat(steps), (13, 5))
        self.assertEqual(self.check(TRIANGLE, (), steps), [(0, 2), (0, 1), (1, 0), (1, 2), (2, 0), (2, 1)])

    def test_two_hundred_steps(self):
        steps = [("write", 0, 1, 7), ("take", 0, 1)] * 99 + [("write", 1, 2, 3), ("settle",)]
        self.assertEqual(flat(steps), (200, 0))
        self.assertEqual(self.check(TRIANGLE, ALL, steps), [(0, 1)] * 99 + [(1, 2)])

    def test_on_a_net_that_was_used_before(self):
        layout = Layout(TRIANGLE)
        net = Net(layout, Book.full(layout))
        net.write(0, 0, 8)
        self.assertEqual(play(net, [("take", 0, 2)]), [(0, 2)])
        self.assertEqual(net[2, 0], 8)
        self.assertEqual(play(net, OVERTAKING[:4]), [(0, 1)])
        self.assertEqual(play(net, [("settle",)]), [(0, 2), (1, 2)])

    def test_a_line_that_the_caller_holds(self):
        net = self.make(TRIANGLE)
        with net.held(0, 2):
            self.assertEqual(play(net, [("write", 0, 0, 1), ("hold", 0, 2, [("settle",)]), ("settle",)]), [])
            with self.assertRaises(HeldBack):
                play(net, [("hold", 0, 2, []), ("take", 0, 2)])
            self.assertEqual(net.back, [(0, 2)])
        self.assertEqual(play(net, [("settle",)]), [(0, 2)])

    def test_returned_lists_are_new(self):
        net = self.make(TRIANGLE)
        first = play(net, [])
        first.append((0, 1))
        self.assertEqual(play(net, []), [])
        lines = play(net, [("write", 0, 0, 1), ("settle",)])
        self.assertIs(type(lines), list)
        self.assertEqual([type(line) for line in lines], [tuple])

    def test_by_chance(self):
        kinds, deepest, done = set(), 0, 0
        for seed in range(120):
            chance = random.Random(seed)
            rows = chance.choice(LAYOUTS)
            lines = Model(rows, ()).lines
            steps = self.steps_by_chance(rows, lines or [(0, 1)], chance, 0, chance.choice((10, 30, 100)))
            told = self.check(rows, some_counts(rows, chance), steps)
            kinds.add(told[0] if isinstance(told, tuple) else list)
            done += isinstance(told, list)
            self.assertLessEqual(flat(steps)[0], 200)
            deepest = max(deepest, flat(steps)[1])
        self.assertLessEqual({list, "NoLetter", "HeldBack", "TooEarly"}, kinds)
        self.assertEqual(deepest, 5)
        self.assertGreater(done, 20)

    def steps_by_chance(self, rows, lines, chance, deep, most):
        steps = []
        while flat(steps)[0] < most:
            copy = chance.choice([at for at, row in enumerate(rows) if row])
            dice = chance.random()
            if dice < 0.55:
                steps.append(("write", copy, chance.choice(rows[copy]), chance.randrange(1000000)))
            elif dice < 0.57:
                steps.append(("take", *chance.choice(lines)))
            elif dice < 0.75 or deep == 5 or most < 3:
                steps.append(("settle",))
            else:
                inner = self.steps_by_chance(rows, lines, chance, deep + 1, most // 2)
                steps.append(("hold", *chance.choice(lines), inner))
        return steps


class RefusedPlayTest(PlayCase):
    # Steps that are refused after OVERTAKING[:4] with the full book, and the errors.
    refused = [
        (("write", 0, 2, 1), NotKept, {"copy": 0, "key": 2}),
        (("write", 3, 0, 1), NotKept, {"copy": 3, "key": 0}),
        (("write", -1, 0, -1), NotKept, {"copy": -1, "key": 0}),
        (("write", 0, 8, 1), NotKept, {"copy": 0, "key": 8}),
        (("write", 0, 0, -1), BadValue, {"value": -1}),
        (("write", 2, 2, 1000000), BadValue, {"value": 1000000}),
        (("take", 0, 0), NoLine, {"sender": 0, "taker": 0}),
        (("take", 0, 3), NoLine, {"sender": 0, "taker": 3}),
        (("take", -3, 1), NoLine, {"sender": -3, "taker": 1}),
        (("take", 2, 1), NoLetter, {"sender": 2, "taker": 1}),
        (("take", 1, 2), TooEarly, {"sender": 1, "taker": 2, "lacking": ((0, 1, 0),)}),
        (("hold", 0, 3, [("write", 0, 0, 9)]), NoLine, {"sender": 0, "taker": 3}),
        (("hold", 1, 1, []), NoLine, {"sender": 1, "taker": 1}),
        (("hold", -1, 0, []), NoLine, {"sender": -1, "taker": 0}),
    ]

    def check_refused(self, steps, earlier, kind, told):
        """Check that exactly the earlier steps are done when these steps are refused."""
        for net_kind in (Net, WatchedNet):
            net, wanted = [net_kind(Layout(TRIANGLE), Book(ALL)) for _ in range(2)]
            play(wanted, earlier)
            before = copies_of.deepcopy(steps)
            with self.subTest(steps), self.assertRaises(kind) as caught:
                play(net, steps)
            self.assertIs(type(caught.exception), kind)
            self.assertEqual(vars(caught.exception), told)
            self.assertEqual(steps, before)
            self.assertEqual(shown(net, TRIANGLE), shown(wanted, TRIANGLE))
            self.assertEqual(net.back, [])
            if net_kind == WatchedNet:
                self.assertEqual(net.misses, wanted.misses)
                self.assertEqual([outcome(net.led, v, w) for v in range(5) for w in range(5)],
                                 [outcome(wanted.led, v, w) for v in range(5) for w in range(5)])
            # Nothing is held any more, so all letters can be taken.
            self.assertEqual(net.settle(), wanted.settle())
            self.assertEqual(net.waiting, 0)
        self.check(TRIANGLE, ALL, steps)

    def test_every_kind_of_step_outside_of_holds(self):
        later = [("write", 0, 0, 77), ("settle",)]
        for step, kind, told in self.refused:
            self.check_refused([*OVERTAKING[:4], step, *later], OVERTAKING[:4], kind, told)
            self.check_refused([*OVERTAKING[:4], step], OVERTAKING[:4], kind, told)

    def test_every_kind_of_step_inside_of_holds(self):
        later = [("write", 0, 0, 77), ("settle",)]
        for step, kind, told in self.refused:
            for lines in ([(0, 1)], [(2, 1), (2, 1)], [(0, 1), (1, 0), (2, 0), (0, 1), (2, 1)]):
                inner = nested(lines, [("write", 2, 0, 5), step, *later])
                steps = [*OVERTAKING[:4], inner, *later]
                if step[:3] == ("take", 2, 1) and (2, 1) in lines:
                    kind = HeldBack
                self.check_refused(steps, [*OVERTAKING[:4], ("write", 2, 0, 5)], kind, told)

    def test_the_first_step_is_refused(self):
        self.check_refused([("take", 0, 1), ("write", 0, 0, 1)], [], NoLetter, {"sender": 0, "taker": 1})
        self.check_refused([("hold", 0, 1, [("take", 0, 2)])], [], NoLetter, {"sender": 0, "taker": 2})

    def test_held_back(self):
        told = {"sender": 0, "taker": 2}
        take = ("take", 0, 2)
        for lines in ([(0, 2)], [(0, 2), (1, 2)], [(1, 2), (0, 2)], [(0, 2)] * 5):
            for earlier in ([], [("write", 0, 0, 1)]):
                steps = [nested(lines, [*earlier, take, ("settle",)]), ("settle",)]
                self.check_refused(steps, earlier, HeldBack, told)

    def test_steps_between_that_end_their_hold(self):
        first = ("hold", 0, 1, [("write", 0, 1, 4), ("hold", 1, 2, [("write", 1, 2, 6), ("settle",)])])
        steps = [first, ("hold", 2, 0, [("settle",), ("take", 1, 2), ("write", 1, 1, 8)]), ("settle",)]
        self.check_refused(steps, [first, ("settle",)], NoLetter, {"sender": 1, "taker": 2})

    def test_line_full(self):
        earlier = [("write", 0, 1, value) for value in range(99)]
        for step in (("write", 0, 1, 99), ("hold", 0, 1, [("hold", 1, 2, [("write", 0, 1, 99), ("settle",)])])):
            told = {"sender": 0, "taker": 1}
            self.check_refused([*earlier, step, ("write", 1, 2, 1)], earlier, LineFull, told)

    def test_too_early_has_its_cause(self):
        layout = Layout(TRIANGLE)
        net = Net(layout, Book.full(layout))
        with self.assertRaises(TooEarly) as caught:
            play(net, [("hold", 0, 2, OVERTAKING)])
        told = {"sender": 1, "taker": 2, "lacking": ((0, 1, 0),)}
        cause = {"other": 0, "needed": 1, "present": 0}
        self.assertEqual(fields(caught.exception), ("TooEarly", told, cause))

    def test_going_on_after_an_error(self):
        layout = Layout(TRIANGLE)
        net = Net(layout, Book.full(layout))
        with self.assertRaises(TooEarly):
            play(net, OVERTAKING + [("take", 0, 2)])
        self.assertEqual(play(net, [("take", 0, 2), ("take", 1, 2)]), [(0, 2), (1, 2)])


class TraceTest(unittest.TestCase):
    def trace_slowly(self, rows, counts, steps):
        """Return the lines that are ready after each step, and the names of the errors."""
        model, told, names = Model(rows, counts), [], []
        for step in steps:
            try:
                getattr(model, step[0])(*step[1:])
            except Refused as refused:
                names.append(refused.told[0])
            told.append(model.ready())
        return told, names

    def test_example(self):
        layout = Layout(TRIANGLE)
        wanted = [[(0, 2)], [(0, 1), (0, 2)], [(0, 2)], [(0, 2)], [(0, 2)]]
        self.assertEqual(trace(layout=layout, book=Book.full(layout), steps=OVERTAKING), wanted)
        wanted = [[(0, 2)], [(0, 1), (0, 2)], [(0, 2)], [(0, 2), (1, 2)], [(0, 2)]]
        self.assertEqual(trace(layout, Book(), OVERTAKING), wanted)

    def test_no_steps(self):
        self.assertEqual(trace(Layout(TRIANGLE), Book(), []), [])
        self.assertEqual(trace(Layout([[]]), Book(), []), [])

    def test_refused_steps_are_skipped(self):
        layout = Layout(TRIANGLE)
        for counts in ((), ALL):
            for step, _, _ in RefusedPlayTest.refused:
                if step[0] == "hold" or (not counts and step == ("take", 1, 2)):
                    continue
                plain = trace(layout, Book(counts), OVERTAKING[:4] + [("take", 0, 2), ("take", 1, 2)])
                steps = OVERTAKING[:4] + [step, ("take", 0, 2), step, ("take", 1, 2)]
                if step == ("take", 1, 2):
                    steps.pop(6)
                told = trace(layout, Book(counts), steps)
                self.assertEqual(told, self.trace_slowly(TRIANGLE, counts, steps)[0])
                self.assertEqual(told[:4] + [told[5], told[-1]], plain)
                # A step that is skipped changes nothing.
                self.assertEqual(told[4], told[3])
                self.assertEqual(len(told), len(steps))

    def test_all_refused(self):
        steps = [("take", 0, 1), ("write", 0, 5, 1), ("write", 0, 0, -1), ("take", 5, 5), ("take", 0, 1)]
        self.assertEqual(trace(Layout(TRIANGLE), Book(ALL), steps), [[]] * 5)
        self.assertEqual(trace(Layout([[]]), Book(ALL), steps), [[]] * 5)

    def test_full_line(self):
        steps = [("write", 0, 1, 1)] * 101 + [("take", 0, 1)] * 99
        told = trace(Layout(TRIANGLE), Book(ALL), steps)
        self.assertEqual(told, [[(0, 1)]] * 199 + [[]])

    def test_by_chance(self):
        names = set()
        skipped, unlike = 0, 0
        for seed in range(60):
            chance = random.Random(seed)
            rows = chance.choice(LAYOUTS)
            layout = Layout(rows)
            steps = self.steps_by_chance(rows, chance, chance.choice((20, 60, 200)))
            before = list(steps)
            told = []
            for counts in (sorted(least_of(rows)), [], some_counts(rows, chance)):
                book = Book(counts)
                wanted, errors = self.trace_slowly(rows, counts, steps)
                told.append(trace(layout, book, steps))
                self.assertEqual(told[-1], wanted)
                self.assertEqual(trace(layout, book, steps), wanted)
                self.assertEqual([steps, layout, list(book)], [before, Layout(rows), sorted(counts)])
                names |= set(errors)
                skipped += len(errors)
            unlike += told[0] != told[1]
        self.assertLessEqual({"NotKept", "BadValue", "NoLine", "NoLetter", "TooEarly"}, names)
        self.assertGreater(skipped, 500)
        self.assertGreater(unlike, 3)

    def steps_by_chance(self, rows, chance, many):
        lines = Model(rows, ()).lines or [(0, 1)]
        steps = []
        for _ in range(many):
            dice = chance.random()
            copy = chance.choice([at for at, row in enumerate(rows) if row])
            if dice < 0.4:
                steps.append(("write", copy, chance.choice(rows[copy]), chance.randrange(1000000)))
            elif dice < 0.45:
                steps.append(("write", chance.randrange(-1, 8), chance.randrange(-1, 10), chance.choice((-1, 5, 10**6))))
            elif dice < 0.5:
                steps.append(("take", chance.randrange(-2, 8), chance.randrange(-2, 8)))
            else:
                steps.append(("take", *chance.choice(lines)))
        return steps

    def test_returned_lists_are_new(self):
        layout, book = Layout(TRIANGLE), Book()
        steps = [("write", 0, 0, 1), ("take", 0, 0), ("take", 0, 0)]
        told = trace(layout, book, steps)
        self.assertEqual([type(told), *[type(row) for row in told]], [list] * 4)
        told[1].clear()
        self.assertEqual(told, [[(0, 2)], [], [(0, 2)]])
        self.assertEqual(trace(layout, book, steps), [[(0, 2)]] * 3)


class ShrinkTest(unittest.TestCase):
    def check(self, rows, counts, run):
        """Check what a run that errs is shrunk to against point [22]."""
        layout, book, before = Layout(rows), Book(counts), list(run)
        short = shrink(layout, book, run)
        self.assertIs(type(short), list)
        self.assertTrue(errs(rows, counts, short))
        many = writes_of(short)
        self.assertLessEqual(many, len(rows))
        self.assertTrue(self.can_remain(rows, counts, run, short), (rows, counts, run, short))
        for number in range(many):
            self.assertFalse(errs(rows, counts, remains(rows, short, [number])))
        # Nothing stands behind the first early taking.
        self.assertEqual(until_early(rows, counts, short), short)
        self.assertGreaterEqual(many, writes_of(erring_run(layout, book)))
        self.assertEqual([run, layout, list(book)], [before, Layout(rows), sorted(counts)])
        self.assertEqual(shrink(layout, book, run), short)
        return short

    def can_remain(self, rows, counts, run, short):
        """Tell whether the short run is what remains of the run when some writes are left out."""
        writes = [step for step in run if step[0] == "write"]
        wanted = [step for step in short if step[0] == "write"]

        def tell(at, kept):
            if len(kept) == len(wanted):
                left_out = set(range(len(writes))) - set(kept)
                return until_early(rows, counts, remains(rows, run, left_out)) == short
            numbers = [number for number in range(at, len(writes)) if writes[number] == wanted[len(kept)]]
            return any(tell(number + 1, [*kept, number]) for number in numbers)

        return tell(0, [])

    def test_example(self):
        steps = [("write", 2, 0, 9), *OVERTAKING, ("take", 2, 0)]
        self.assertEqual(shrink(layout=Layout(TRIANGLE), book=Book(), steps=steps), OVERTAKING)
        self.assertEqual(self.check(TRIANGLE, [], steps), OVERTAKING)

    def test_runs_of_chains_stay_as_they_are(self):
        for rows in LAYOUTS:
            layout = Layout(rows)
            for line in layout.lines():
                for chain in list(chains(layout, *line))[::5]:
                    run = chain_run(layout, chain)
                    self.assertEqual(run, run_of(rows, chain))
                    self.assertEqual(shrink(layout, Book(), run), run)

    def test_steps_behind_the_first_early_taking(self):
        more = [("write", 2, 2, 4), ("take", 0, 2), ("take", 2, 1), ("write", 0, 0, 5)]
        self.assertEqual(self.check(TRIANGLE, [], OVERTAKING + more), OVERTAKING)

    def test_takings_of_writes_that_stay_stay(self):
        # Copy 3 takes the letters, too; it belongs to no chain here.
        rows = [*TRIANGLE, [0, 1, 2]]
        takes = [("take", 0, 3), ("take", 0, 3), ("take", 1, 3)]
        steps = OVERTAKING[:4] + takes + OVERTAKING[4:]
        self.assertEqual(self.check(rows, [], steps), steps)
        self.assertEqual(self.check(rows, [], OVERTAKING + takes), OVERTAKING)

    def test_takings_of_writes_that_are_left_out_go(self):
        # Two letters are on each line, and the write that is left out comes first on it.
        steps = [("write", 0, 1, 8), ("take", 0, 1), ("write", 1, 2, 9), ("take", 1, 2), *OVERTAKING]
        self.assertEqual(self.check(TRIANGLE, [], steps), OVERTAKING)
        steps = [("write", 0, 1, 8), ("write", 1, 2, 9), *OVERTAKING[:2], ("take", 0, 1), *OVERTAKING[2:4]]
        steps += [("take", 1, 2), ("take", 1, 2), ("take", 0, 2)]
        self.assertEqual(self.check(TRIANGLE, [], steps), OVERTAKING)

    def test_equal_writes(self):
        steps = [("write", 0, 0, 1)] * 5 + [("write", 0, 1, 2)] * 5 + [("take", 0, 1)] * 5
        steps += [("write", 1, 2, 3)] * 5 + [("take", 1, 2)] * 5
        self.assertEqual(self.check(TRIANGLE, [], steps), OVERTAKING)

    def test_a_shorter_way_to_the_same_taking(self):
        # Write 0 leads to the last one by copies 1 and 3, and by copy 3 alone.
        rows = [[0, 1, 4], [1, 2], [0, 3], [2, 3, 4]]
        steps = [("write", 0, 0, 1), ("write", 0, 1, 2), ("take", 0, 1), ("write", 1, 2, 3), ("take", 1, 3)]
        steps += [("write", 0, 4, 5), ("take", 0, 3), ("write", 3, 3, 6), ("take", 3, 2)]
        short = self.check(rows, [], steps)
        self.assertEqual(writes_of(short), 3)

    def test_long_runs(self):
        shrunk = 0
        lengths = set()
        for seed in range(400):
            chance = random.Random(seed)
            rows = chance.choice(LAYOUTS)
            counts = some_counts(rows, chance) if seed & 1 else []
            run, early = run_by_chance(rows, counts, chance, chance.choice((30, 80, 200)))
            if not early:
                with self.assertRaises(NoMiss) as caught:
                    shrink(Layout(rows), Book(counts), run)
                self.assertIs(type(caught.exception), NoMiss)
                continue
            short = self.check(rows, counts, run)
            shrunk += 1
            lengths.add(writes_of(short))
        self.assertGreater(shrunk, 70)
        self.assertLessEqual({2, 3, 4}, lengths)

    def test_no_miss(self):
        layout = Layout(TRIANGLE)
        full = Book.full(layout)
        steps = OVERTAKING[:4] + [("take", 0, 2), ("take", 1, 2)]
        for book, run in ((full, []), (Book(), []), (full, steps), (Book(), steps), (Book(), OVERTAKING[:4])):
            before = list(run)
            with self.assertRaises(NoMiss) as caught:
                shrink(layout, book, run)
            self.assertIsInstance(caught.exception, KeeperError)
            self.assertIs(type(caught.exception), NoMiss)
            self.assertEqual(run, before)
        with self.assertRaises(NoMiss):
            shrink(Layout([[]]), Book(), [])

    def test_refused_steps(self):
        layout = Layout(TRIANGLE)
        for step, kind, told in RefusedPlayTest.refused:
            if step[0] == "hold":
                continue
            # The run errs or not before the step is refused.
            for book, earlier in ((Book(ALL), OVERTAKING[:4]), (Book(), OVERTAKING)):
                run = [*earlier, step, ("take", 0, 2)]
                if step == ("take", 1, 2) and not len(book):
                    kind, told = NoLetter, {"sender": 1, "taker": 2}
                before = list(run)
                for _ in range(2):
                    with self.subTest(run), self.assertRaises(kind) as caught:
                        shrink(layout, book, run)
                    self.assertIs(type(caught.exception), kind)
                    self.assertEqual(vars(caught.exception), told)
                    self.assertEqual(run, before)

    def test_too_early_has_its_cause(self):
        with self.assertRaises(TooEarly) as caught:
            shrink(Layout(TRIANGLE), Book(ALL), OVERTAKING)
        cause = {"other": 0, "needed": 1, "present": 0}
        self.assertEqual(fields(caught.exception)[2], cause)

    def test_line_full(self):
        run = OVERTAKING + [("write", 2, 0, 1)] * 100
        with self.assertRaises(LineFull) as caught:
            shrink(Layout(TRIANGLE), Book(), run)
        self.assertEqual(vars(caught.exception), {"sender": 2, "taker": 0})

    def test_a_changed_answer_changes_no_later_one(self):
        layout = Layout(TRIANGLE)
        steps = list(OVERTAKING)
        short = shrink(layout, Book(), steps)
        short.clear()
        self.assertEqual([steps, shrink(layout, Book(), steps)], [OVERTAKING, OVERTAKING])

    def test_numbers_of_the_slow_search(self):
        # The checks above lean on `remains`.
        steps = [("write", 0, 1, 8), ("write", 1, 2, 9), *OVERTAKING[:2], ("take", 0, 1), ("take", 0, 1)]
        self.assertEqual(written(TRIANGLE, steps), [0, 1, 2, 3, 0, 3])
        self.assertEqual(remains(TRIANGLE, steps, [0, 1, 2]), [("write", 0, 1, 2), ("take", 0, 1)])


if __name__ == "__main__":
    unittest.main()
