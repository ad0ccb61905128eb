"""Tests of partkeepers.layouts: points [2], [3] and [4], and the interface of Layout."""

import unittest

from partkeepers.errors import BadKey, BadLayout, KeeperError, NoCopy, NotKept
from partkeepers.layouts import Layout

TRIANGLE = [[1, 0], [1, 2], [0, 2]]
FAR = (-1000000, -7, -1, 6, 7, 8, 100, 10**30)


def some_layouts():
    """Yield layouts of many shapes, as lists of rows."""
    yield from ([[]], [[3]], [[], []], [[0], [1]], [[0, 1, 2, 3, 4, 5, 6, 7]] * 6)
    # Each number of copies with rows that are read off the bits of changing numbers.
    for copies in range(1, 7):
        for start in range(40):
            bits = [(start * 37 + copy * 101 + start * copy * 13) % 256 for copy in range(copies)]
            yield [[key for key in range(8) if number >> key & 1] for number in bits]


class MakingTest(unittest.TestCase):
    def test_class_stands_in_its_file(self):
        self.assertEqual(Layout.__module__, "partkeepers.layouts")
        for name in ("__len__", "__getitem__", "__contains__", "__iter__", "__eq__"):
            self.assertIn(name, vars(Layout))
        for name in ("lines", "shared", "keepers", "with_key", "without_key"):
            self.assertIn(name, vars(Layout))

    def test_number_of_rows(self):
        for number in range(1, 7):
            self.assertEqual(len(Layout([[0]] * number)), number)
            self.assertEqual(len(Layout([[]] * number)), number)

    def test_bad_number_of_rows(self):
        for rows in ([], (), [[0]] * 7, ((),) * 7, [[0]] * 50):
            with self.subTest(rows), self.assertRaises(BadLayout) as caught:
                Layout(rows)
            self.assertIsInstance(caught.exception, KeeperError)

    def test_each_key(self):
        for key in range(8):
            self.assertEqual(list(Layout([[key]])), [(key,)])

    def test_bad_key(self):
        for key in (-1, 8, 9, -8, 255, 10**20, -(10**20)):
            for rows in ([[key]], ((key,),), [[], [0, 1], (7, key)], [[0, key, 1], [2]]):
                with self.subTest(rows), self.assertRaises(BadKey) as caught:
                    Layout(rows)
                self.assertEqual(caught.exception.key, key)

    def test_first_bad_key_in_the_order_passed(self):
        for rows, first in (
            ([[9, 8, -1]], 9),
            ([[0, -1, 8]], -1),
            ([[0, 1], [7, 12, -5], [99]], 12),
            ([[3, 2, 1], (), (0, 8), [-1]], 8),
            (([5, 100], [-3]), 100),
        ):
            with self.subTest(rows), self.assertRaises(BadKey) as caught:
                Layout(rows)
            self.assertEqual(caught.exception.key, first)

    def test_bad_layout_comes_before_bad_key(self):
        with self.assertRaises(BadLayout):
            Layout([[9]] * 7)

    def test_bad_key_in_the_last_of_six_rows(self):
        with self.assertRaises(BadKey) as caught:
            Layout([[0], [1], [2], [3], [4], [7, 8]])
        self.assertEqual(caught.exception.key, 8)

    def test_lists_and_tuples(self):
        wanted = [(0, 1), (), (2, 7)]
        for rows in (
            [[1, 0], [], [7, 2]],
            ((1, 0), (), (7, 2)),
            [(0, 1), [], (2, 7)],
            ([0, 1], (), [7, 2]),
        ):
            self.assertEqual(list(Layout(rows)), wanted)

    def test_any_order_and_twice(self):
        layout = Layout([[7, 0, 3, 0, 7, 7], (5, 5, 4, 5), [0, 0]])
        self.assertEqual(list(layout), [(0, 3, 7), (4, 5), (0,)])
        self.assertEqual(list(Layout([[7, 6, 5, 4, 3, 2, 1, 0] * 3])), [(0, 1, 2, 3, 4, 5, 6, 7)])

    def test_later_changes_of_the_rows_passed(self):
        rows = [[1, 0], [1, 2], [0, 2]]
        layout = Layout(rows)
        rows[0].append(7)
        rows[1].clear()
        rows[2][0] = 5
        rows.append([3])
        self.assertEqual(list(layout), [(0, 1), (1, 2), (0, 2)])
        self.assertEqual(len(layout), 3)

    def test_the_rows_passed_stay_the_same(self):
        rows = [[1, 0, 1], [2, 1]]
        Layout(rows).with_key(0, 7)
        self.assertEqual(rows, [[1, 0, 1], [2, 1]])
        with self.assertRaises(BadKey):
            Layout([rows[0], [9]])
        self.assertEqual(rows, [[1, 0, 1], [2, 1]])


class AskingTest(unittest.TestCase):
    def setUp(self):
        self.layout = Layout(TRIANGLE)

    def test_example(self):
        self.assertEqual(
            [self.layout[0], self.layout.lines()],
            [(0, 1), [(0, 1), (0, 2), (1, 0), (1, 2), (2, 0), (2, 1)]],
        )

    def test_index(self):
        self.assertEqual([self.layout[copy] for copy in range(3)], [(0, 1), (1, 2), (0, 2)])
        self.assertIsInstance(self.layout[1], tuple)
        self.assertEqual(Layout([[]])[0], ())

    def test_no_copy(self):
        for copy in (-1, 3, -3, -4, 4, 6, 10**20):
            with self.subTest(copy), self.assertRaises(NoCopy) as caught:
                self.layout[copy]
            self.assertEqual(caught.exception.copy, copy)

    def test_no_copy_at_the_length(self):
        for number in range(1, 7):
            layout = Layout([[0]] * number)
            for copy in (-1, number):
                with self.subTest((number, copy)), self.assertRaises(NoCopy) as caught:
                    layout[copy]
                self.assertEqual(caught.exception.copy, copy)

    def test_iteration(self):
        self.assertEqual(list(self.layout), [(0, 1), (1, 2), (0, 2)])
        self.assertTrue(all(isinstance(row, tuple) for row in self.layout))
        self.assertEqual([row for row in self.layout], list(self.layout))

    def test_contains(self):
        kept = [(copy, key) for copy in range(-2, 9) for key in range(-3, 12) if (copy, key) in self.layout]
        self.assertEqual(kept, [(0, 0), (0, 1), (1, 1), (1, 2), (2, 0), (2, 2)])
        self.assertIs((0, 1) in self.layout, True)
        self.assertIs((0, 2) in self.layout, False)

    def test_contains_no_copy_and_no_key(self):
        for far in FAR:
            self.assertIs((far, 0) in self.layout, False)
            self.assertIs((0, far) in self.layout, False)
            self.assertIs((far, far) in self.layout, False)
        self.assertIs((-1, 2) in self.layout, False)
        self.assertIs((3, 0) in self.layout, False)

    def test_shared(self):
        layout = Layout([[7, 5, 3, 1], [5, 3, 2, 7], [], [0]])
        self.assertEqual(layout.shared(0, 1), (3, 5, 7))
        self.assertEqual(layout.shared(1, 0), (3, 5, 7))
        self.assertEqual(layout.shared(0, 0), (1, 3, 5, 7))
        self.assertEqual(layout.shared(2, 2), ())
        self.assertEqual(layout.shared(2, 0), ())
        self.assertEqual(layout.shared(0, 3), ())
        self.assertEqual(layout.shared(3, 3), (0,))
        self.assertIsInstance(layout.shared(0, 3), tuple)

    def test_shared_no_copy(self):
        for first, second, wrong in (
            (-1, 0, -1),
            (0, -1, -1),
            (3, 1, 3),
            (1, 3, 3),
            (4, 5, 4),
            (5, 4, 5),
            (-2, 3, -2),
            (7, 7, 7),
        ):
            with self.subTest((first, second)), self.assertRaises(NoCopy) as caught:
                self.layout.shared(first, second)
            self.assertEqual(caught.exception.copy, wrong)

    def test_keepers(self):
        layout = Layout([[0, 3], [3], [], [3, 7], [0]])
        self.assertEqual(layout.keepers(3), [0, 1, 3])
        self.assertEqual(layout.keepers(0), [0, 4])
        self.assertEqual(layout.keepers(7), [3])
        self.assertEqual(layout.keepers(1), [])

    def test_keepers_of_no_key(self):
        full = Layout([list(range(8))] * 6)
        self.assertEqual(full.keepers(7), [0, 1, 2, 3, 4, 5])
        for key in (-1, 8, -8, 100, 10**20):
            self.assertEqual(full.keepers(key), [])

    def test_lines(self):
        for rows, lines in (
            ([[0, 1]], []),
            ([[0], [1]], []),
            ([[], []], []),
            ([[0], [0]], [(0, 1), (1, 0)]),
            ([[0], [], [0]], [(0, 2), (2, 0)]),
            ([[0, 3], [0, 1], [1, 2], [2, 3]], [(0, 1), (0, 3), (1, 0), (1, 2), (2, 1), (2, 3), (3, 0), (3, 2)]),
        ):
            with self.subTest(rows):
                self.assertEqual(Layout(rows).lines(), lines)

    def test_lines_of_six_copies(self):
        lines = Layout([[4]] * 6).lines()
        self.assertEqual(len(lines), 30)
        self.assertEqual(lines[:6], [(0, 1), (0, 2), (0, 3), (0, 4), (0, 5), (1, 0)])
        self.assertEqual(lines[-1], (5, 4))

    def test_against_sets(self):
        for rows in some_layouts():
            layout = Layout(rows)
            sets = [set(row) for row in rows]
            copies = range(len(rows))
            self.assertEqual(list(layout), [tuple(sorted(row)) for row in sets])
            self.assertEqual(
                layout.lines(),
                sorted((a, b) for a in copies for b in copies if a != b and sets[a] & sets[b]),
            )
            for a in copies:
                for b in copies:
                    self.assertEqual(layout.shared(a, b), tuple(sorted(sets[a] & sets[b])))
            for key in range(-1, 9):
                self.assertEqual(layout.keepers(key), [copy for copy in copies if key in sets[copy]])

    def test_returned_lists_are_new(self):
        self.layout.lines().clear()
        self.layout.keepers(0).append(5)
        list(self.layout).clear()
        self.assertEqual(len(self.layout.lines()), 6)
        self.assertEqual(self.layout.keepers(0), [0, 2])
        self.assertEqual(list(self.layout), [(0, 1), (1, 2), (0, 2)])


class EqualTest(unittest.TestCase):
    def test_equal(self):
        layout = Layout(TRIANGLE)
        self.assertIs(layout == layout, True)
        self.assertIs(layout == Layout(((0, 1, 1), (2, 1), [0, 2])), True)
        self.assertIs(layout != Layout(TRIANGLE), False)

    def test_not_equal(self):
        layout = Layout(TRIANGLE)
        for rows in (
            [[1, 2], [1, 0], [0, 2]],
            [[0, 2], [1, 2], [0, 1]],
            [[0, 1, 2], [1, 2], [0, 2]],
            [[0, 1], [1, 2], [0]],
            [[0, 1], [1, 2], [0, 3]],
            [[0, 1], [1, 2], [0, 2], []],
            [[], [0, 1], [1, 2], [0, 2]],
            [[0, 1], [1, 2]],
        ):
            with self.subTest(rows):
                self.assertIs(layout == Layout(rows), False)
                self.assertIs(Layout(rows) == layout, False)
                self.assertIs(layout != Layout(rows), True)

    def test_no_layout(self):
        layout = Layout(TRIANGLE)
        for other in (None, 0, 3, "layout", [(0, 1), (1, 2), (0, 2)], ((0, 1), (1, 2), (0, 2)), {}, object()):
            with self.subTest(other):
                self.assertIs(layout == other, False)
                self.assertIs(layout != other, True)


class ChangedKeysTest(unittest.TestCase):
    def setUp(self):
        self.layout = Layout(TRIANGLE)

    def tearDown(self):
        self.assertEqual(list(self.layout), [(0, 1), (1, 2), (0, 2)])
        self.assertEqual(len(self.layout.lines()), 6)

    def test_with_key(self):
        more = self.layout.with_key(1, 0)
        self.assertIsInstance(more, Layout)
        self.assertEqual(list(more), [(0, 1), (0, 1, 2), (0, 2)])
        self.assertEqual(list(self.layout.with_key(2, 7)), [(0, 1), (1, 2), (0, 2, 7)])
        self.assertEqual(list(Layout([[], []]).with_key(1, 3)), [(), (3,)])

    def test_with_key_that_is_kept(self):
        same = self.layout.with_key(0, 1)
        self.assertEqual(same, self.layout)
        self.assertIsNot(same, self.layout)

    def test_with_key_errors(self):
        for copy in (-1, 3, 6, -10):
            for key in (0, -1, 8):
                with self.subTest((copy, key)), self.assertRaises(NoCopy) as caught:
                    self.layout.with_key(copy, key)
                self.assertEqual(caught.exception.copy, copy)
        for copy in range(3):
            for key in (-1, 8, 100, -(10**9)):
                with self.subTest((copy, key)), self.assertRaises(BadKey) as caught:
                    self.layout.with_key(copy, key)
                self.assertEqual(caught.exception.key, key)

    def test_without_key(self):
        less = self.layout.without_key(1, 1)
        self.assertIsInstance(less, Layout)
        self.assertEqual(list(less), [(0, 1), (2,), (0, 2)])
        self.assertEqual(list(less.without_key(1, 2)), [(0, 1), (), (0, 2)])
        self.assertEqual(list(less), [(0, 1), (2,), (0, 2)])

    def test_without_key_undoes_with_key(self):
        for copy, key in ((0, 7), (1, 0), (2, 1)):
            self.assertEqual(self.layout.with_key(copy, key).without_key(copy, key), self.layout)

    def test_without_key_errors(self):
        for copy, key in ((0, 2), (1, 7), (-1, 0), (3, 0), (0, -1), (0, 8), (-1, -1), (6, 8), (10**9, 0)):
            with self.subTest((copy, key)), self.assertRaises(NotKept) as caught:
                self.layout.without_key(copy, key)
            self.assertEqual((caught.exception.copy, caught.exception.key), (copy, key))


if __name__ == "__main__":
    unittest.main()
