"""Tests of the facts of points [17] and [19] over the whole program."""

import random
import unittest

from model import shown
from search import ALL, HEXAGON, SQUARE, TRIANGLE, errs, least_of, remains, run_by_chance, some_counts, some_layouts
from search import takings, writes_of

from partkeepers.books import Book
from partkeepers.chains import erring_run, is_safe
from partkeepers.costs import best_keeper, key_cost, least_book, needs
from partkeepers.errors import TooEarly
from partkeepers.layouts import Layout
from partkeepers.nets import Net
from partkeepers.plays import play, shrink
from partkeepers.watches import WatchedNet

LAYOUTS = [rows for rows in some_layouts(2, seed=5) if any(rows)]


def played(rows, counts, run):
    """Return a watched net on which the run was done; the error of a refused step comes through."""
    net = WatchedNet(Layout(rows), Book(counts))
    play(net, run)
    return net


class RunsTest(unittest.TestCase):
    def test_a_safe_book_has_no_early_taking(self):
        chance = random.Random(1)
        takes = 0
        for rows in LAYOUTS:
            more = [count for count in ALL if chance.random() < 0.3]
            for counts in (sorted(least_of(rows)), sorted(least_of(rows) | set(more)), ALL):
                self.assertIs(is_safe(Layout(rows), Book(counts)), True)
                run, early = run_by_chance(rows, counts, chance, 150)
                self.assertEqual([early, played(rows, counts, run).misses], [False, []])
                takes += len(run) - writes_of(run)
        self.assertGreater(takes, 5000)

    def test_safe_books_with_holds_and_settling(self):
        # Held lines let the other letters get as far ahead as the counts allow.
        chance = random.Random(2)
        for rows in LAYOUTS:
            layout = Layout(rows)
            for book, safe in ((least_book(layout), True), (Book(), is_safe(layout, Book()))):
                net = WatchedNet(layout, book)
                for _ in range(12 if layout.lines() else 0):
                    writers = [copy for copy, row in enumerate(rows) if row]
                    keys = [(copy, chance.choice(rows[copy])) for copy in chance.choices(writers, k=4)]
                    steps = [step for copy, key in keys for step in (("write", copy, key, 5), ("settle",))]
                    play(net, [("hold", *chance.choice(layout.lines()), steps), *[("settle",)] * chance.randrange(2)])
                if safe:
                    self.assertEqual(net.misses, [])

    def test_lesser_books_allow_the_run(self):
        chance = random.Random(3)
        for rows in LAYOUTS:
            counts = some_counts(rows, chance)
            run, early = run_by_chance(rows, counts, chance, 120)
            for share in (0, 0.5, 0.9):
                lesser = [count for count in counts if chance.random() < share]
                net = played(rows, lesser, run)
                # What leads to what, and so what is missed, does not depend on the counts.
                self.assertEqual(net.misses, played(rows, counts, run).misses)
                self.assertEqual(bool(net.misses), early)

    def test_what_remains_is_allowed(self):
        chance = random.Random(4)
        fewer = 0
        for rows in LAYOUTS:
            counts = some_counts(rows, chance)
            run, early = run_by_chance(rows, counts, chance, 120)
            many = writes_of(run)
            for share in (0.1, 0.4, 0.8):
                left_out = [number for number in range(many) if chance.random() < share]
                short = remains(rows, run, left_out)
                net = played(rows, counts, short)
                self.assertFalse(net.misses and not early)
                fewer += len(short) < len(run)
                self.assertEqual(play(Net(Layout(rows), Book(counts)), short), [
                    step[1:] for step in short if step[0] == "take"
                ])
        self.assertGreater(fewer, 100)

    def test_a_run_that_errs_has_as_many_writes_as_erring_run(self):
        chance = random.Random(5)
        early_ones = 0
        layouts = [rows for rows in LAYOUTS if least_of(rows)]
        for rows in layouts * 3:
            least = sorted(least_of(rows))
            counts = chance.choice(([], [], [count for count in ALL if count not in least[:9]], some_counts(rows, chance)))
            run, early = run_by_chance(rows, counts, chance, 150)
            if early:
                early_ones += 1
                many = writes_of(run)
                found = erring_run(Layout(rows), Book(counts), most=many)
                self.assertLessEqual(writes_of(found), many)
                self.assertTrue(errs(rows, counts, found))
                self.assertIs(is_safe(Layout(rows), Book(counts)), False)
                # What it is shrunk to errs, too.
                short = shrink(Layout(rows), Book(counts), run)
                self.assertLessEqual(writes_of(found), writes_of(short))
        self.assertGreater(early_ones, 30)

    def test_short_runs_one_by_one(self):
        """Try all runs with few writes on small layouts: none errs with fewer writes than `erring_run` tells."""
        square = sorted(least_of(SQUARE))
        for rows, counts, most in (
            (TRIANGLE, ALL, 3),
            (TRIANGLE, sorted(set(ALL) - {(1, 0, 2)}), 3),
            ([[0], [0], [0]], [], 2),
            ([[0], [0], [0]], ALL, 3),
            ([[0, 1], [0, 1], [0, 2, 1]], sorted(set(ALL) - {(0, 1, 2)}), 3),
            ([[0, 1], [0, 2], [0, 2]], [(1, 0, 2)], 3),
            (SQUARE, square[1:], 3),
        ):
            found = erring_run(Layout(rows), Book(counts), most=most)
            wanted = None if found is None else writes_of(found)
            self.assertEqual(self.fewest(rows, counts, most), wanted, (rows, counts))

    def fewest(self, rows, counts, most):
        """Return the fewest writes of a run that errs, at most `most`, by trying all runs."""
        layout, book = Layout(rows), Book(counts)
        steps = [("write", copy, key, 1) for copy, row in enumerate(rows) for key in row]
        runs = [()]
        for many in range(most + 1):
            # First all takings that may follow, then one more write.
            seen = {}
            while runs:
                run = runs.pop()
                net = WatchedNet(layout, book)
                play(net, run)
                if net.misses:
                    return many
                # Runs with the same writes are alike if the copies met the same ones and the same letters wait.
                state = (str(shown(net, rows)), str([step for step in run if step[0] == "write"]), self.led(net, many))
                if state not in seen:
                    seen[state] = run
                    runs.extend((*run, ("take", *line)) for line in net.ready())
            runs = [(*run, step) for run in seen.values() for step in steps]
        return None

    def led(self, net, many):
        return tuple(net.led(v, w) for v in range(many) for w in range(many))


class FactsAboutCostsTest(unittest.TestCase):
    def test_each_count_of_the_least_book_is_needed(self):
        for rows in LAYOUTS[::3] + [HEXAGON]:
            layout = Layout(rows)
            least = least_book(layout)
            for (copy, sender, taker), run in list(needs(layout).items())[::4]:
                book = Book.full(layout) - Book([(copy, sender, taker)])
                missed = takings(rows, list(book), run)
                self.assertEqual([len(each) for each in missed], [0] * (len(run) - 1) + [1])
                self.assertIs(is_safe(layout, book), False)
                self.assertIs(is_safe(layout, least | book), True)
                with self.assertRaises(TooEarly):
                    played(rows, list(least), run)

    def test_costs_add_up(self):
        for rows in LAYOUTS[::3]:
            layout = Layout(rows)
            for key in range(8):
                best = best_keeper(layout, key)
                sizes = {}
                for copy in range(len(rows)):
                    gained, lost = key_cost(layout, copy, key)
                    after = (least_book(layout) | gained) - lost
                    self.assertEqual(after, least_book(layout.with_key(copy, key)))
                    self.assertEqual(len(gained & lost), 0)
                    if (copy, key) not in layout:
                        sizes[copy] = len(after)
                self.assertEqual(best, min(sizes, key=sizes.get, default=None))


if __name__ == "__main__":
    unittest.main()
