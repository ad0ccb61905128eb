"""Tests of partkeepers.costs: points [23] and [24], and [19] as far as it speaks of the least book."""

import random
import unittest

from model import carried_lines, lines_of
from search import ALL, SQUARE, TRIANGLE, chains_of, counts_of, least_of, run_of, some_counts, some_layouts, writes_of
from test_nets import FAR

from partkeepers.books import Book
from partkeepers.chains import chain_run, is_safe
from partkeepers.costs import best_keeper, free_lines, key_cost, least_book, needs, table
from partkeepers.errors import BadKey, KeeperError, NoCopy
from partkeepers.layouts import Layout
from partkeepers.letters import HEAD
from partkeepers.nets import Net

LAYOUTS = some_layouts(3, seed=1)
SMALL = some_layouts(1, seed=2, copies=(2,)) + [[[]], [[0, 3]], [[0], []], [[], []]]
# The lines between 0 and 1 lie on no ring.
TAIL = [[7], [7, 0, 1], [1, 2], [0, 2]]


def found(call, *arguments):
    """Return the class and the fields of the error that the call raises."""
    try:
        call(*arguments)
    except KeeperError as error:
        return (type(error), vars(error))
    return None


class LeastBookTest(unittest.TestCase):
    def test_stands_in_its_file(self):
        for function in (least_book, needs, free_lines, key_cost, best_keeper, table):
            self.assertEqual(function.__module__, "partkeepers.costs")

    def test_counts_of_all_chains(self):
        sizes = set()
        for rows in LAYOUTS + SMALL:
            layout = Layout(rows)
            for _ in range(2):
                book = least_book(layout=layout)
                self.assertIs(type(book), Book)
                self.assertEqual(list(book), sorted(least_of(rows)))
                self.assertLessEqual(book, Book.full(layout))
            sizes.add(len(book))
            self.assertIs(is_safe(layout, book), True)
            self.assertEqual(layout, Layout(rows))
        self.assertLessEqual({0, 120}, sizes)
        self.assertGreater(len(sizes), 15)

    def test_square(self):
        self.assertEqual(
            list(least_book(Layout(SQUARE))),
            [(0, 1, 2), (0, 2, 1), (0, 2, 3), (0, 3, 2), (1, 0, 3), (1, 2, 3), (1, 3, 0), (1, 3, 2)]
            + [(2, 0, 1), (2, 0, 3), (2, 1, 0), (2, 3, 0), (3, 0, 1), (3, 1, 0), (3, 1, 2), (3, 2, 1)],
        )

    def test_common_keys_need_the_full_book(self):
        pairs = [[0, 1, 2], [0, 3, 4], [1, 3, 5], [2, 4, 5]]
        for rows in ([[0]] * 3, [[5]] * 6, pairs, [[0, 7]] * 5, [[0, 1], [0, 2], [1, 2]]):
            layout = Layout(rows)
            self.assertEqual(least_book(layout), Book.full(layout))
            self.assertEqual(len(least_book(layout)), len(rows) * (len(rows) - 1) * (len(rows) - 2))

    def test_no_ring_needs_nothing(self):
        chance = random.Random(4)
        trees = [[[]], [[0]], [[0], [0]], [[], [], []], [[0, 1], [1, 2], [2, 3], [3, 4], [4, 5], [5, 6]]]
        for _ in range(20):
            # Each copy but the first one has a key of its own in common with an earlier copy.
            rows = [[]]
            for key in chance.sample(range(8), chance.randint(1, 5)):
                chance.choice(rows).append(key)
                rows.append([key])
            trees.append(rows)
        for rows in trees:
            self.assertEqual(list(least_book(Layout(rows))), [], rows)

    def test_a_returned_book_that_is_changed(self):
        layout = Layout(SQUARE)
        wanted = sorted(least_of(SQUARE))
        book = least_book(layout)
        book -= Book(wanted[:5])
        book |= Book(ALL[-3:])
        self.assertEqual(list(least_book(layout)), wanted)
        self.assertEqual([free_lines(layout), list(needs(layout))], [[], wanted])


class NeedsTest(unittest.TestCase):
    def test_triangle(self):
        layout = Layout(TRIANGLE)
        given = needs(layout=layout)
        self.assertIs(type(given), dict)
        self.assertEqual(list(given), [(0, 1, 2), (0, 2, 1), (1, 0, 2), (1, 2, 0), (2, 0, 1), (2, 1, 0)])
        for (copy, sender, taker), run in given.items():
            self.assertEqual(run, chain_run(layout, (sender, copy, taker)))

    def test_fewest_writes_of_all_chains_with_the_count(self):
        for rows in LAYOUTS + SMALL:
            layout = Layout(rows)
            runs = {}
            for chain in chains_of(rows):
                for count in counts_of(chain):
                    runs.setdefault(count, []).append(run_of(rows, chain))
            given = needs(layout)
            self.assertEqual(list(given), sorted(runs))
            for count, run in given.items():
                self.assertIs(type(run), list)
                self.assertIn(run, runs[count])
                self.assertEqual(writes_of(run), min(writes_of(other) for other in runs[count]))
            self.assertEqual(layout, Layout(rows))

    def test_a_later_chain_with_fewer_writes(self):
        # The chain (0, 1, 3, 4) needs four writes; (0, 2, 3, 4) needs three, as one key opens it.
        layout = Layout([[0, 3], [3, 4], [0, 1], [1, 2, 4], [0, 2]])
        self.assertEqual([writes_of(chain_run(layout, (0, copy, 3, 4))) for copy in (1, 2)], [4, 3])
        self.assertEqual(needs(layout)[3, 0, 4], chain_run(layout, (0, 2, 3, 4)))
        self.assertEqual(needs(layout)[1, 0, 4], chain_run(layout, (0, 1, 3, 4)))

    def test_lists_of_their_own(self):
        layout = Layout([[0, 5], [0, 1], [1, 2], [2, 3], [3, 4], [4, 5]])
        wanted = {count: list(run) for count, run in needs(layout).items()}
        given = needs(layout)
        self.assertEqual(len({id(run) for run in given.values()}), len(given))
        # The four counts of one chain have equal runs.
        self.assertEqual(given[1, 0, 5], given[4, 0, 5])
        given[1, 0, 5].clear()
        self.assertEqual(given[4, 0, 5], wanted[4, 0, 5])
        self.assertEqual({count: run for count, run in given.items() if count != (1, 0, 5)}, {
            count: run for count, run in wanted.items() if count != (1, 0, 5)
        })
        for run in given.values():
            run.reverse()
        given.clear()
        self.assertEqual(needs(layout), wanted)
        self.assertEqual(list(least_book(layout)), list(wanted))

    def test_nothing_is_needed(self):
        for rows in ([[]], [[0], [0]], [[0], [0, 1], [1]]):
            self.assertEqual(needs(Layout(rows)), {})


class FreeLinesTest(unittest.TestCase):
    def test_tail(self):
        self.assertEqual(free_lines(Layout(TAIL)), [(0, 1), (1, 0)])

    def test_against_the_least_book(self):
        many = 0
        for rows in LAYOUTS + SMALL:
            layout = Layout(rows)
            needed = {count[1:] for count in least_of(rows)}
            wanted = [line for line in lines_of(rows) if line not in needed]
            given = free_lines(layout=layout)
            self.assertIs(type(given), list)
            self.assertEqual(given, wanted)
            given.append((0, 0))
            self.assertEqual(free_lines(layout), wanted)
            self.assertEqual(layout, Layout(rows))
            many += 0 < len(wanted) < len(lines_of(rows))
        self.assertGreater(many, 3)

    def test_all_or_none(self):
        self.assertEqual(free_lines(Layout(SQUARE)), [])
        self.assertEqual(free_lines(Layout([[0]] * 6)), [])
        self.assertEqual(free_lines(Layout([[0], [0, 1], [1]])), [(0, 1), (1, 0), (1, 2), (2, 1)])
        self.assertEqual(free_lines(Layout([[0], [1]])), [])


class KeyCostTest(unittest.TestCase):
    def test_example(self):
        gained, lost = key_cost(layout=Layout(SQUARE), copy=2, key=3)
        self.assertEqual(list(gained), [(1, 0, 2), (1, 2, 0), (3, 0, 2), (3, 2, 0)])
        self.assertEqual(list(lost), [(1, 0, 3), (3, 0, 1), (3, 1, 2)])

    def test_against_the_least_books(self):
        both = 0
        for rows in LAYOUTS[::7] + SMALL:
            layout = Layout(rows)
            without = least_of(rows)
            for copy, row in enumerate(rows):
                for key in range(8):
                    within = least_of([[*other, key] if at == copy else other for at, other in enumerate(rows)])
                    given = key_cost(layout, copy, key)
                    self.assertIs(type(given), tuple)
                    self.assertEqual([type(book) for book in given], [Book, Book])
                    self.assertEqual([set(book) for book in given], [within - without, without - within])
                    if key in row or not layout.keepers(key):
                        self.assertEqual(given, (Book(), Book()))
                    both += len(given[0]) * len(given[1]) > 0
            self.assertEqual(layout, Layout(rows))
        self.assertGreater(both, 5)

    def test_kept_already(self):
        for copy, row in enumerate(SQUARE):
            for key in row:
                self.assertEqual(key_cost(Layout(SQUARE), copy, key), (Book(), Book()))

    def test_nobody_else_keeps_it(self):
        for copy in range(4):
            for key in (4, 5, 6, 7):
                self.assertEqual(key_cost(Layout(SQUARE), copy, key), (Book(), Book()))
        self.assertEqual(key_cost(Layout([[]]), 0, 7), (Book(), Book()))

    def test_the_two_books_are_two(self):
        layout = Layout(SQUARE)
        gained, lost = key_cost(layout, 0, 0)
        gained |= Book([(0, 1, 2)])
        self.assertEqual(list(lost), [])
        lost |= Book([(3, 4, 5)])
        self.assertEqual(key_cost(layout, 0, 0), (Book(), Book()))

    def test_errors(self):
        layout = Layout(SQUARE)
        for copy in (-1, -4, 4, 5, *FAR):
            for key in (0, 7, 8, -1, *FAR):
                if not 0 <= copy < 4:
                    self.assertEqual(found(key_cost, layout, copy, key), (NoCopy, {"copy": copy}))
        for copy in range(4):
            for key in (8, -1, 9, -8, 100, -(10**20), 10**20):
                self.assertEqual(found(key_cost, layout, copy, key), (BadKey, {"key": key}))
        self.assertEqual(layout, Layout(SQUARE))


class BestKeeperTest(unittest.TestCase):
    def test_against_the_least_books(self):
        told = set()
        for rows in LAYOUTS[::7] + SMALL:
            layout = Layout(rows)
            for key in range(8):
                sizes = [
                    (len(least_of([[*other, key] if at == copy else other for at, other in enumerate(rows)])), copy)
                    for copy, row in enumerate(rows)
                    if key not in row
                ]
                wanted = min(sizes)[1] if sizes else None
                self.assertEqual(best_keeper(layout=layout, key=key), wanted, (rows, key))
                told.add(wanted)
            self.assertEqual(layout, Layout(rows))
        self.assertLessEqual({None, 0, 1, 2, 3}, told)

    def test_the_lowest_of_the_best(self):
        # Copies 2 and 3 tie, and so do all that get a key that nobody keeps.
        self.assertEqual(best_keeper(Layout([[0, 1], [0, 1], [], []]), 0), 2)
        self.assertEqual(best_keeper(Layout(SQUARE), 7), 0)
        self.assertEqual(best_keeper(Layout([[7], [], [], []]), 7), 1)
        self.assertEqual(best_keeper(Layout([[], [], [], [7]]), 7), 0)

    def test_a_best_one_that_is_not_the_lowest(self):
        # With key 5 copies 0 and 1 would lie on a ring with copy 3; copies 2 and 4 would not.
        rows = [[0], [0, 1], [1, 2], [2, 5], []]
        self.assertEqual([len(least_of(rows[:copy] + [[*rows[copy], 5]] + rows[copy + 1:])) > 0 for copy in (0, 1)],
                         [True, True])
        self.assertEqual(best_keeper(Layout(rows), 5), 2)

    def test_fewer_counts_with_the_key_than_without(self):
        layout = Layout([[0, 5], [0, 1], [1, 2], [2, 3], [3, 4], [4, 5]])
        best = best_keeper(layout, 0)
        sizes = {copy: len(least_book(layout.with_key(copy, 0))) for copy in (2, 3, 4, 5)}
        self.assertEqual(sizes[best], min(sizes.values()))

    def test_every_copy_keeps_it(self):
        for rows in ([[0]], [[0, 7]] * 6, [[0, 1], [1, 0], [0]]):
            self.assertIsNone(best_keeper(Layout(rows), 0))

    def test_bad_key(self):
        for rows in (SQUARE, [[]], [[0, 1, 2, 3, 4, 5, 6, 7]] * 6):
            layout = Layout(rows)
            for key in (8, -1, 9, -8, 100, -(10**20), 10**20):
                self.assertEqual(found(best_keeper, layout, key), (BadKey, {"key": key}))
            self.assertEqual(layout, Layout(rows))


def table_of(rows, counts):
    """Return the table, straight from point [24], with sizes of carried lines from point [7]."""
    lines = lines_of(rows)
    text = ["copy keys     lines bytes"]
    sums = [0, 0]
    for copy, row in enumerate(rows):
        counted = sum(line[0] == copy or (copy, *line) in counts for line in lines)
        sent = 0
        for key in set(row):
            for taker, other in enumerate(rows):
                if taker != copy and key in other:
                    sent += 9 + 2 * len(carried_lines(rows, counts, copy, taker))
        digits = "".join(str(key) for key in sorted(set(row)))
        text.append(str(copy).rjust(4) + " " + (digits or "-").ljust(8) + "".join(
            " " + str(number).rjust(5) for number in (counted, sent)
        ))
        sums = [sums[0] + counted, sums[1] + sent]
    digits = "".join(str(key) for key in sorted({key for row in rows for key in row}))
    text.append(" all " + (digits or "-").ljust(8) + "".join(" " + str(number).rjust(5) for number in sums))
    return "\n".join(text)


class TableTest(unittest.TestCase):
    def test_example(self):
        layout = Layout(TRIANGLE)
        wanted = ["copy keys     lines bytes", "   0 01           4    30", "   1 12           4    30"]
        wanted += ["   2 02           4    30", " all 012         12    90"]
        self.assertEqual(table(layout=layout, book=Book.full(layout)), "\n".join(wanted))

    def test_empty_row(self):
        wanted = ["copy keys     lines bytes", "   0 3            1    11", "   1 -            0     0"]
        wanted += ["   2 37           1    11", " all 37           2    22"]
        for _ in range(2):
            self.assertEqual(table(Layout([[3], [], [7, 3]]), Book()), "\n".join(wanted))

    def test_no_keys(self):
        wanted = "copy keys     lines bytes\n   0 -            0     0\n all -            0     0"
        self.assertEqual(table(Layout([[]]), Book(ALL)), wanted)
        wanted = "copy keys     lines bytes\n   0 -            0     0\n   1 -            0     0\n all -            0     0"
        self.assertEqual(table(Layout([[], []]), Book()), wanted)

    def test_large_sums(self):
        rows = [[7, 6, 5, 4, 3, 2, 1, 0]] * 6
        wanted = ["copy keys     lines bytes"]
        # A letter carries the lines that neither start at its taker nor end at its sender: 21
        # of them, so it has 9 + 42 digits. A copy sends 40 letters.
        wanted += [f"   {copy} 01234567    25  2040" for copy in range(6)]
        wanted += [" all 01234567   150 12240"]
        for _ in range(2):
            self.assertEqual(table(Layout(rows), Book(ALL)), "\n".join(wanted))

    def test_sign_by_sign(self):
        chance = random.Random(3)
        for rows in LAYOUTS + SMALL:
            layout = Layout(rows)
            counts = some_counts(rows, chance)
            book = Book(counts)
            for _ in range(2):
                self.assertEqual(table(layout, book), table_of(rows, set(counts)), (rows, counts))
            self.assertEqual([layout, list(book)], [Layout(rows), sorted(counts)])
            self.assertIs(type(table(layout, book)), str)

    def test_columns(self):
        for rows in LAYOUTS + SMALL:
            text = table(Layout(rows), Book(ALL))
            lines = text.split("\n")
            self.assertEqual(len(lines), len(rows) + 2)
            self.assertEqual({len(line) for line in lines}, {25})
            self.assertEqual({line[4] + line[13] + line[19] for line in lines}, {"   "})

    def test_bytes_that_a_net_sends(self):
        chance = random.Random(6)
        for rows in LAYOUTS[::3]:
            layout, book = Layout(rows), Book(some_counts(rows, chance))
            told = table(layout, book).split("\n")
            total = 0
            for copy in range(len(rows)):
                net = Net(layout, book)
                for key in layout[copy]:
                    net.write(copy, key, 999999)
                letters = [letter for line in layout.lines() for letter in net.on_way(*line)]
                sent = sum(len(letter) for letter in letters)
                self.assertEqual(int(told[copy + 1][-5:]), sent)
                self.assertEqual(int(told[copy + 1][-11:-6]), len(net.known(copy)))
                self.assertEqual(sent >= HEAD, bool(letters))
                total += sent
            self.assertEqual(int(told[-1][-5:]), total)

    def test_book_that_is_changed_in_place(self):
        layout, book = Layout(TRIANGLE), Book()
        first = table(layout, book)
        self.assertEqual(first, table_of(TRIANGLE, set()))
        book |= Book.full(layout)
        self.assertEqual(table(layout, book), table_of(TRIANGLE, set(ALL)))
        book -= Book(ALL)
        self.assertEqual(table(layout, book), first)


if __name__ == "__main__":
    unittest.main()
