"""Tests of partkeepers.chains: point [18], and [17] and [19] as far as they speak of chains."""

import inspect
import random
import unittest

from model import shown
from search import ALL, HEXAGON, SQUARE, TRIANGLE, chains_of, counts_of, least_of, run_of, some_counts, some_layouts
from search import takings, tuples, writes_of
from test_nets import FAR, fields

from partkeepers.books import Book
from partkeepers.chains import MOST_WRITES, chain_run, chains, erring_run, is_safe
from partkeepers.errors import KeeperError, NoChain, TooEarly
from partkeepers.layouts import Layout
from partkeepers.watches import WatchedNet

LAYOUTS = some_layouts(4)
PENTAGON = [[0, 4], [0, 1], [1, 2], [2, 3], [3, 4]]
# Copy 1 keeps the early key of the chains from 0 to 2, too.
SHORT_CUT = [[0, 1], [0, 2], [0, 2]]


def found(rows, sender, taker):
    return list(chains(Layout(rows), sender, taker))


class ChainsTest(unittest.TestCase):
    def test_stands_in_its_file(self):
        for function in (chains, chain_run, erring_run, is_safe):
            self.assertEqual(function.__module__, "partkeepers.chains")
        self.assertEqual(MOST_WRITES, 6)
        self.assertIs(type(MOST_WRITES), int)

    def test_is_a_generator(self):
        self.assertTrue(inspect.isgeneratorfunction(chains))
        given = chains(layout=Layout(TRIANGLE), sender=0, taker=2)
        self.assertEqual(next(given), (0, 1, 2))
        self.assertEqual(list(given), [])

    def test_triangle_and_square(self):
        for line in ((0, 1), (0, 2), (1, 0), (1, 2), (2, 0), (2, 1)):
            self.assertEqual(found(TRIANGLE, *line), [(line[0], 3 - sum(line), line[1])])
        self.assertEqual(found(SQUARE, 0, 1), [(0, 3, 2, 1)])
        self.assertEqual(found(SQUARE, 1, 0), [(1, 2, 3, 0)])
        self.assertEqual(found(SQUARE, 0, 2), [])
        self.assertEqual(found(HEXAGON, 3, 2), [(3, 4, 5, 0, 1, 2)])

    def test_one_key_for_both_openings(self):
        # Copies 0, 1 and 2 keep key 0, and 1 has a key of its own for 2.
        self.assertEqual(found(SHORT_CUT, 0, 2), [(0, 1, 2)])
        self.assertEqual(found(SHORT_CUT, 0, 1), [(0, 2, 1)])
        # Also if this is the key itself that all three keep.
        self.assertEqual(found([[0], [0], [0]], 0, 2), [(0, 1, 2)])

    def test_keys_that_the_taker_keeps_bar_inner_links(self):
        # From 1 to 2 only with key 1; once the taker 3 keeps it, too, 1 hands on to 3 itself.
        rows = [[0, 4], [0, 1], [1, 2], [2, 4]]
        self.assertEqual(found(rows, 0, 3), [(0, 1, 2, 3)])
        rows[3].append(1)
        self.assertEqual(found(rows, 0, 3), [(0, 1, 3)])

    def test_keys_that_later_copies_keep_bar_a_chain(self):
        self.assertEqual(found(PENTAGON, 0, 4), [(0, 1, 2, 3, 4)])
        for copy, key, left in (
            # The early key and the first one, kept by a copy behind c1.
            (2, 4, [(0, 2, 3, 4)]),
            (2, 0, [(0, 2, 3, 4)]),
            # The inner key of 1, kept by 3.
            (3, 1, [(0, 1, 3, 4)]),
        ):
            layout = Layout(PENTAGON).with_key(copy, key)
            got = list(chains(layout, 0, 4))
            self.assertEqual(got, [chain for chain in tuples(list(layout), 0, 4) if run_of(list(layout), chain)])
            self.assertNotIn((0, 1, 2, 3, 4), got)
            if key != 4:
                self.assertEqual(got, left)

    def test_keys_that_do_not_bar_a_chain(self):
        # c1 may keep the early key, k the first one, and every copy the last one.
        for copy, key in ((1, 4), (4, 0), (1, 3), (2, 3), (0, 3), (0, 1), (0, 2), (1, 2)):
            layout = Layout(PENTAGON).with_key(copy, key)
            self.assertIn((0, 1, 2, 3, 4), list(chains(layout, 0, 4)), (copy, key))

    def test_shorter_ones_first_then_ascending(self):
        rows = [[0, 1, 2, 3], [0, 4], [1, 4, 5], [2, 5, 6], [0, 6, 7], [3, 7, 4]]
        given = found(rows, 0, 1)
        self.assertEqual(given, sorted(given, key=lambda chain: (len(chain), chain)))
        self.assertGreater(len({len(chain) for chain in given}), 2)
        self.assertEqual(given, [chain for chain in tuples(rows, 0, 1) if run_of(rows, chain)])

    def test_against_a_plain_search(self):
        lengths = set()
        for rows in LAYOUTS:
            layout = Layout(rows)
            for sender in range(len(rows)):
                for taker in range(len(rows)):
                    wanted = [chain for chain in tuples(rows, sender, taker) if run_of(rows, chain)]
                    self.assertEqual(list(chains(layout, sender, taker)), wanted, (rows, sender, taker))
                    lengths |= {len(chain) for chain in wanted}
            self.assertEqual(layout, Layout(rows))
        self.assertEqual(lengths, {3, 4, 5, 6})

    def test_no_line(self):
        for rows in (TRIANGLE, SQUARE, HEXAGON, [[0]] * 4, [[]], [[0]], [[0], [0]], [[0], [1], [0, 2], [1, 2]]):
            layout = Layout(rows)
            pairs = [(copy, copy) for copy in range(-1, 7)]
            pairs += [(0, far) for far in (*FAR, len(rows))] + [(far, 0) for far in (*FAR, len(rows))]
            pairs += [(-1, 1), (1, -1), (-1, -2), (len(rows), len(rows) + 1), (10**20, 10**20)]
            for sender, taker in pairs:
                if (sender, taker) not in layout.lines():
                    self.assertEqual(list(chains(layout, sender, taker)), [], (rows, sender, taker))
        # Two copies without a common key, and two that are the only ones.
        self.assertEqual(found([[0], [1], [0, 2], [1, 2]], 0, 1), [])
        self.assertEqual(found([[0], [0]], 0, 1), [])

    def test_twice_the_same_also_by_turns(self):
        for rows in LAYOUTS[::3]:
            layout = Layout(rows)
            for sender, taker in layout.lines():
                wanted = list(chains(layout, sender, taker))
                first, second = chains(layout, sender, taker), chains(layout, sender, taker)
                other = chains(layout, taker, sender)
                turns = []
                for chain in first:
                    turns.append((chain, next(second)))
                    next(other, None)
                self.assertEqual(turns, [(chain, chain) for chain in wanted])
                self.assertEqual(list(second), [])

    def test_yields_tuples(self):
        for chain in found(HEXAGON, 0, 1):
            self.assertIs(type(chain), tuple)
            self.assertEqual([type(copy) for copy in chain], [int] * len(chain))


class ChainRunTest(unittest.TestCase):
    def test_example(self):
        steps = [("write", 0, 0, 1), ("write", 0, 1, 2), ("take", 0, 1), ("write", 1, 2, 3), ("take", 1, 2)]
        self.assertEqual(chain_run(layout=Layout(TRIANGLE), chain=(0, 1, 2)), steps)

    def test_one_opening_write(self):
        run = [("write", 0, 0, 1), ("take", 0, 1), ("write", 1, 0, 2), ("take", 1, 2)]
        self.assertEqual(chain_run(Layout(SHORT_CUT), (0, 1, 2)), run)

    def test_a_common_key_goes_ahead_of_lesser_ones(self):
        # Key 0 is an early key and key 1 a first one, but key 5 is both, and so is key 6.
        rows = [[0, 1, 5, 6], [1, 2, 5, 6], [0, 2, 5, 6]]
        run = [("write", 0, 5, 1), ("take", 0, 1), ("write", 1, 2, 2), ("take", 1, 2)]
        self.assertEqual(chain_run(Layout(rows), (0, 1, 2)), run)

    def test_the_least_keys(self):
        rows = [[7, 6, 3, 2], [3, 2, 1, 4], [4, 1, 5, 0], [0, 5, 6, 7]]
        run = [
            ("write", 0, 6, 1),
            ("write", 0, 2, 2),
            ("take", 0, 1),
            ("write", 1, 1, 3),
            ("take", 1, 2),
            ("write", 2, 0, 4),
            ("take", 2, 3),
        ]
        self.assertEqual(chain_run(Layout(rows), (0, 1, 2, 3)), run)

    def test_the_early_key_goes_ahead_of_the_first_key(self):
        run = chain_run(Layout(HEXAGON), (0, 1, 2, 3, 4, 5))
        self.assertEqual(run[:3], [("write", 0, 5, 1), ("write", 0, 0, 2), ("take", 0, 1)])
        self.assertEqual(run[-2:], [("write", 4, 4, 6), ("take", 4, 5)])
        self.assertEqual(writes_of(run), 6)

    def test_against_the_slow_search(self):
        openings = set()
        for rows in LAYOUTS:
            layout = Layout(rows)
            for chain in chains_of(rows):
                run = chain_run(layout, chain)
                self.assertEqual(run, run_of(rows, chain))
                self.assertIn(writes_of(run), (len(chain) - 1, len(chain)))
                self.assertLessEqual(writes_of(run), len(rows))
                openings.add((len(chain), writes_of(run)))
            self.assertEqual(layout, Layout(rows))
        self.assertLessEqual({(3, 2), (3, 3), (4, 3), (4, 4), (5, 4), (5, 5), (6, 6)}, openings)

    def test_kinds_of_values(self):
        run = chain_run(Layout(TRIANGLE), (0, 1, 2))
        self.assertIs(type(run), list)
        self.assertEqual([type(step) for step in run], [tuple] * 5)

    def test_twice_the_same_also_after_a_change(self):
        layout = Layout(HEXAGON)
        chain = (2, 3, 4, 5, 0, 1)
        wanted = run_of(HEXAGON, chain)
        first = chain_run(layout, chain)
        first.reverse()
        first.clear()
        second = chain_run(layout, chain)
        self.assertEqual(second, wanted)
        second[0] = ("take", 0, 1)
        self.assertEqual(chain_run(layout, chain), wanted)
        self.assertEqual(chain, (2, 3, 4, 5, 0, 1))

    def refuse(self, rows, chain):
        layout = Layout(rows)
        for _ in range(2):
            with self.subTest((rows, chain)), self.assertRaises(NoChain) as caught:
                chain_run(layout, chain)
            self.assertEqual(vars(caught.exception), {"chain": chain})
            self.assertIsInstance(caught.exception, KeeperError)
        self.assertEqual(layout, Layout(rows))

    def test_no_chain(self):
        for rows in (TRIANGLE, SHORT_CUT, SQUARE, HEXAGON, [[0]] * 6, [[]], [[0]], [[0], [0]], [[], [], []]):
            for chain in ((), (0,), (0, 1), (-1,), (6, 7), (0, 0), (0, 0, 0), (0, 1, 0), (0, 0, 1), (1, 0, 0)):
                self.refuse(rows, chain)
            for far in (*FAR, len(rows), -len(rows)):
                for chain in ((far, 1, 2), (0, far, 2), (0, 1, far), (far,), (0, far), (far, far, far)):
                    self.refuse(rows, chain)
        self.refuse(TRIANGLE, (-3, 1, 2))
        self.refuse(TRIANGLE, (0, 1, -1))
        self.refuse(TRIANGLE, (0, 1, 2, 0))
        self.refuse(TRIANGLE, (0, 1, 0, 2))
        self.refuse([[0]] * 6, (0, 1, 2, 3, 4, 5))
        self.refuse([[0]] * 6, tuple(range(100)))
        self.refuse(HEXAGON, (0, 1, 2, 3, 4, 5, 0))

    def test_a_key_that_lacks(self):
        self.assertEqual(len(chain_run(Layout(PENTAGON), (0, 1, 2, 3, 4))), 9)
        for copy, key in ((0, 4), (4, 4), (0, 0), (1, 0), (1, 1), (2, 1), (2, 2), (3, 2), (3, 3), (4, 3)):
            self.refuse(list(Layout(PENTAGON).without_key(copy, key)), (0, 1, 2, 3, 4))
        for copy, key in ((2, 4), (3, 4), (2, 0), (3, 0), (3, 1), (4, 1), (4, 2)):
            self.refuse(list(Layout(PENTAGON).with_key(copy, key)), (0, 1, 2, 3, 4))

    def test_all_tuples_that_are_no_chain(self):
        for rows in LAYOUTS[::2]:
            layout = Layout(rows)
            for sender in range(len(rows)):
                for taker in range(len(rows)):
                    for chain in tuples(rows, sender, taker):
                        if run_of(rows, chain) is None:
                            with self.assertRaises(NoChain) as caught:
                                chain_run(layout, chain)
                            self.assertEqual(caught.exception.chain, chain)


class RunOfAChainTest(unittest.TestCase):
    """The run of a chain on a watched net: points [16], [18] and [19]."""

    def check(self, rows, chain, book):
        layout = Layout(rows)
        *steps, (_, sender, taker) = chain_run(layout, chain)
        net = WatchedNet(layout, book)
        for step in steps:
            getattr(net, step[0])(*step[1:])
        self.assertEqual(net.misses, [])
        if counts_of(chain) <= set(book):
            before = shown(net, rows)
            with self.assertRaises(TooEarly) as caught:
                net.take(sender, taker)
            lacking = ((chain[0], 1, 0),)
            cause = {"other": chain[0], "needed": 1, "present": 0}
            wanted = ("TooEarly", {"sender": sender, "taker": taker, "lacking": lacking}, cause)
            self.assertEqual(fields(caught.exception), wanted)
            self.assertEqual([net.misses, shown(net, rows)], [[], before])
            return False
        net.take(sender, taker)
        self.assertEqual(net.misses, [(chain[-1], writes_of(steps) - 1, 0)])
        return True

    def test_with_all_counts_none_and_all_but_one(self):
        for rows in LAYOUTS:
            full = Book.full(Layout(rows))
            for chain in chains_of(rows)[::13]:
                own = Book(sorted(counts_of(chain)))
                for book in (own, full, full | Book(ALL)):
                    self.assertFalse(self.check(rows, chain, book))
                for book in (Book(), full - own, Book(ALL) - own):
                    self.assertTrue(self.check(rows, chain, book))
                for count in own:
                    self.assertTrue(self.check(rows, chain, own - Book([count])))
                    self.assertTrue(self.check(rows, chain, full - Book([count])))

    def test_with_counts_by_chance(self):
        chance = random.Random(7)
        told = []
        for rows in LAYOUTS[::2]:
            for chain in chains_of(rows)[::5]:
                told.append(self.check(rows, chain, Book(some_counts(rows, chance))))
        self.assertGreater(told.count(True), 50)
        self.assertGreater(told.count(False), 50)


class ErringRunTest(unittest.TestCase):
    def test_example(self):
        layout = Layout(TRIANGLE)
        book = Book.full(layout) - Book([(1, 0, 2)])
        run = [("write", 0, 0, 1), ("write", 0, 1, 2), ("take", 0, 1), ("write", 1, 2, 3), ("take", 1, 2)]
        self.assertEqual([erring_run(layout, book, most=2), erring_run(layout, book)], [None, run])
        self.assertEqual(erring_run(layout=layout, book=book, most=MOST_WRITES), run)

    def test_most_is_passed_by_name(self):
        with self.assertRaises(TypeError):
            erring_run(Layout(TRIANGLE), Book(), 6)
        self.assertEqual(inspect.signature(erring_run).parameters["most"].default, 6)

    def check(self, rows, counts):
        """Check the answers of `erring_run` and return how many writes it needs."""
        layout, book = Layout(rows), Book(counts)
        runs = [run_of(rows, chain) for chain in chains_of(rows) if not counts_of(chain) <= set(counts)]
        fewest = min([writes_of(run) for run in runs], default=None)
        run = erring_run(layout, book)
        if fewest is None:
            for most in (-1, 0, 1, 6, 100, 10**20):
                self.assertIsNone(erring_run(layout, book, most=most))
            self.assertIsNone(run)
        else:
            for most in (-(10**20), -6, -1, 0, 1, fewest - 1):
                self.assertIsNone(erring_run(layout, book, most=most))
            for most in (fewest, fewest + 1, 6, 7, 100, 10**20):
                given = erring_run(layout, book, most=most)
                self.assertIn(given, runs)
                self.assertEqual(writes_of(given), fewest)
            missed = takings(rows, counts, run)
            self.assertEqual([len(each) for each in missed], [0] * (len(run) - 1) + [1])
        self.assertEqual(layout, Layout(rows))
        self.assertEqual(list(book), sorted(counts))
        return fewest

    def test_against_all_chains(self):
        chance = random.Random(1)
        told = []
        for rows in LAYOUTS:
            told.append(self.check(rows, some_counts(rows, chance)))
            least = least_of(rows)
            for count in sorted(least)[::35]:
                told.append(self.check(rows, sorted(least - {count})))
        self.assertEqual(set(told), {None, 2, 3, 4, 5, 6})

    def test_safe_books(self):
        for rows in (TRIANGLE, HEXAGON, [[]], [[0]], [[0], [0]], [[0], [0, 1], [1]]):
            self.assertIsNone(self.check(rows, sorted(least_of(rows))))
            self.assertIsNone(self.check(rows, ALL))
        self.assertIsNone(erring_run(Layout([[0], [0, 1], [1]]), Book()))

    def test_fewest_writes_are_not_the_first_chain(self):
        # The chain (0, 1, 2) needs three writes, but (3, 4, 5) two.
        rows = [[0, 1], [1, 2], [0, 2], [3], [3], [3]]
        self.assertEqual(writes_of(erring_run(Layout(rows), Book())), 2)
        self.assertEqual(self.check(rows, []), 2)
        self.assertEqual(self.check(rows, sorted(least_of([[]] * 3 + rows[3:]))), 3)
        # Nor is it always the first one of its length: (0, 1, 3, 4) needs four, (0, 2, 3, 4) three.
        rows = [[0, 3], [3, 4], [0, 1], [1, 2, 4], [0, 2]]
        self.assertEqual(self.check(rows, sorted(least_of(rows) - {(3, 0, 4)})), 3)

    def test_a_changed_answer_changes_no_later_one(self):
        layout = Layout(PENTAGON)
        book = Book()
        first = erring_run(layout, book)
        wanted = list(first)
        first.clear()
        second = erring_run(layout, book)
        self.assertEqual(second, wanted)
        second.append(("take", 0, 1))
        self.assertEqual(erring_run(layout, book), wanted)
        self.assertIs(type(second), list)
        self.assertEqual([type(step) for step in wanted], [tuple] * len(wanted))

    def test_book_that_is_changed_in_place(self):
        layout = Layout(TRIANGLE)
        book = Book()
        self.assertEqual(writes_of(erring_run(layout, book)), 3)
        book |= Book.full(layout)
        self.assertIsNone(erring_run(layout, book))
        book -= Book([(2, 1, 0)])
        self.assertEqual(erring_run(layout, book), chain_run(layout, (1, 2, 0)))


class IsSafeTest(unittest.TestCase):
    def test_chain_by_chain(self):
        chance = random.Random(5)
        told = []
        for rows in LAYOUTS:
            layout = Layout(rows)
            for counts in (some_counts(rows, chance), some_counts(rows, chance), sorted(least_of(rows))):
                book = Book(counts)
                wanted = all(counts_of(chain) <= set(counts) for chain in chains_of(rows))
                self.assertIs(is_safe(layout, book), wanted, (rows, counts))
                self.assertIs(is_safe(layout=layout, book=book), wanted)
                self.assertEqual(list(book), sorted(counts))
                told.append(wanted)
            self.assertEqual(layout, Layout(rows))
        self.assertGreater(told.count(True), 50)
        self.assertGreater(told.count(False), 30)

    def test_empty_full_and_least(self):
        for rows in LAYOUTS[::3]:
            layout, full, least = Layout(rows), Book.full(Layout(rows)), least_of(rows)
            self.assertIs(is_safe(layout, Book()), not least)
            self.assertIs(is_safe(layout, full), True)
            self.assertIs(is_safe(layout, Book(sorted(least))), True)
            for count in sorted(least):
                self.assertIs(is_safe(layout, Book(sorted(least - {count}))), False)
            for count in full:
                self.assertIs(is_safe(layout, full - Book([count])), count not in least)

    def test_counts_without_effect(self):
        for rows in LAYOUTS[::4]:
            layout = Layout(rows)
            least, useless = Book(sorted(least_of(rows))), Book(ALL) - Book.full(layout)
            self.assertIs(is_safe(layout, useless), not len(least))
            self.assertIs(is_safe(layout, least | useless), True)

    def test_common_part_and_union(self):
        chance = random.Random(9)
        for rows in LAYOUTS[::2]:
            layout = Layout(rows)
            least = Book(sorted(least_of(rows)))
            # The least book without some counts is not safe, and the union of two such books may be.
            halves = [least | Book([count for count in ALL if chance.random() < 0.5]) for _ in range(2)]
            self.assertIs(is_safe(layout, halves[0] & halves[1]), True)
            self.assertIs(is_safe(layout, halves[0] | halves[1]), True)
            many = len(least) // 2
            parts = [Book(list(least)[:many]), Book(list(least)[many:])]
            self.assertIs(is_safe(layout, parts[0] | parts[1]), True)
            self.assertIs(is_safe(layout, parts[0] & parts[1]), not len(least))
            for part in parts:
                self.assertIs(is_safe(layout, part), part == least)

    def test_one_book_object_that_is_changed(self):
        layout = Layout(SQUARE)
        book = name = Book()
        self.assertIs(is_safe(layout, book), False)
        book |= Book(sorted(least_of(SQUARE)))
        self.assertIs(is_safe(layout, name), True)
        book -= Book([(1, 0, 3)])
        self.assertIs(is_safe(layout, name), False)
        book |= Book([(1, 0, 3)])
        self.assertIs(is_safe(layout, name), True)

    def test_layouts_without_chains(self):
        for rows in ([[]], [[0, 1]], [[0], [0]], [[], [], []], [[0], [0, 1], [1, 2], [2]], [[0, 1], [0], [1]]):
            self.assertIs(is_safe(Layout(rows), Book()), True)


if __name__ == "__main__":
    unittest.main()
