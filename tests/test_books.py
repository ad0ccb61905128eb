"""Tests of partkeepers.books: points [2], [5] and [6], and the interface of Book."""

import unittest
from itertools import permutations, product

from partkeepers.books import Book, joined
from partkeepers.errors import BadCount, KeeperError
from partkeepers.layouts import Layout

ALL = list(permutations(range(6), 3))
A, B, C, D = (0, 1, 2), (1, 0, 2), (1, 2, 0), (5, 4, 3)


def some_pairs():
    """Yield pairs of lists of counts, with all ways in which two sets can overlap."""
    for first, second in product(range(16), repeat=2):
        pools = [[count for at, count in enumerate((A, B, C, D)) if bits >> at & 1] for bits in (first, second)]
        yield pools[0], pools[1]
    for step in range(2, 9):
        yield ALL[::step], ALL[step:90:3]


class MakingTest(unittest.TestCase):
    def test_stand_in_their_file(self):
        self.assertEqual(Book.__module__, "partkeepers.books")
        self.assertEqual(joined.__module__, "partkeepers.books")
        for name in ("or", "and", "sub", "xor", "ior", "isub", "le", "lt", "eq", "len", "contains", "iter"):
            self.assertIn(f"__{name}__", vars(Book))
        self.assertIn("lines_of", vars(Book))
        self.assertIsInstance(vars(Book)["full"], classmethod)

    def test_no_argument(self):
        self.assertEqual(list(Book()), [])
        self.assertEqual(len(Book()), 0)

    def test_list_and_tuple(self):
        for counts in ([D, A], (D, A), [A, D], (A, D)):
            self.assertEqual(list(Book(counts)), [A, D])
        self.assertEqual(list(Book([])), [])
        self.assertEqual(list(Book(counts=[B])), [B])

    def test_any_order_and_twice(self):
        book = Book([C, A, C, B, A, A])
        self.assertEqual(list(book), [A, B, C])
        self.assertEqual(len(book), 3)

    def test_all_counts(self):
        book = Book(list(reversed(ALL)) + ALL[::7])
        self.assertEqual(list(book), ALL)
        self.assertEqual(len(book), 120)

    def test_ascending(self):
        for step in range(1, 120):
            counts = [ALL[at * step % 120] for at in range(50)]
            self.assertEqual(list(Book(counts)), sorted(set(counts)))

    def test_bad_counts(self):
        for triple in product((-1, 0, 3, 5, 6), repeat=3):
            if triple in ALL:
                self.assertEqual(list(Book([triple])), [triple])
                continue
            for counts in ([triple], (triple,), [A, B, triple, C]):
                with self.subTest(counts), self.assertRaises(BadCount) as caught:
                    Book(counts)
                self.assertEqual(caught.exception.triple, triple)
                self.assertIsInstance(caught.exception, KeeperError)

    def test_first_bad_count(self):
        for counts, first in (
            ([(0, 0, 1), (0, 1, 6)], (0, 0, 1)),
            ([(0, 1, 6), (0, 0, 1)], (0, 1, 6)),
            ([A, (9, 8, 7), (-1, 0, 1)], (9, 8, 7)),
            ((A, B, (2, 3, 2), C, (2, 2, 2)), (2, 3, 2)),
            ([(10**20, 0, 1), (0, 0, 0)], (10**20, 0, 1)),
        ):
            with self.subTest(counts), self.assertRaises(BadCount) as caught:
                Book(counts)
            self.assertEqual(caught.exception.triple, first)

    def test_later_changes_of_the_list_passed(self):
        counts = [A, B]
        book = Book(counts)
        counts.append(C)
        counts[0] = D
        self.assertEqual(list(book), [A, B])
        counts.clear()
        self.assertEqual(len(book), 2)

    def test_the_list_passed_stays_the_same(self):
        counts = [C, A, C]
        book = Book(counts)
        book |= Book([D])
        self.assertEqual(counts, [C, A, C])
        counts.append((0, 0, 0))
        with self.assertRaises(BadCount):
            Book(counts)
        self.assertEqual(counts, [C, A, C, (0, 0, 0)])

    def test_books_share_nothing(self):
        first, second = Book(), Book()
        first |= Book([A])
        self.assertEqual(list(second), [])
        self.assertEqual(list(Book()), [])


class AskingTest(unittest.TestCase):
    def test_contains(self):
        book = Book([A, D])
        held = [triple for triple in product(range(-2, 8), repeat=3) if triple in book]
        self.assertEqual(held, [A, D])
        self.assertIs(A in book, True)
        self.assertIs(B in book, False)

    def test_contains_what_is_no_count(self):
        book = Book(ALL)
        for triple in ((0, 0, 0), (0, 1, 0), (1, 2, 6), (-1, 0, 1), (6, 0, 1), (10**20, 1, 2), (-6, -5, -4)):
            self.assertIs(triple in book, False)

    def test_iteration_gives_tuples(self):
        self.assertEqual([count for count in Book([D, B, A])], [A, B, D])
        self.assertTrue(all(isinstance(count, tuple) for count in Book(ALL)))

    def test_iterates_again(self):
        book = Book([A, B])
        self.assertEqual([list(book), list(book)], [[A, B], [A, B]])

    def test_lines_of(self):
        book = Book([(1, 4, 3), (1, 0, 5), (1, 0, 2), (0, 4, 3), (5, 1, 0)])
        self.assertEqual(book.lines_of(1), [(0, 2), (0, 5), (4, 3)])
        self.assertEqual(book.lines_of(0), [(4, 3)])
        self.assertEqual(book.lines_of(5), [(1, 0)])
        for copy in (2, 3, 4, 6, -1, -5, 100, -(10**20)):
            self.assertEqual(book.lines_of(copy), [])

    def test_lines_of_all(self):
        book = Book(ALL)
        for copy in range(6):
            self.assertEqual(book.lines_of(copy), [count[1:] for count in ALL if count[0] == copy])

    def test_returned_lists_are_new(self):
        book = Book([A, B])
        book.lines_of(1).clear()
        list(book).clear()
        self.assertEqual(book.lines_of(1), [(0, 2)])
        self.assertEqual(list(book), [A, B])


class FullTest(unittest.TestCase):
    def test_triangle(self):
        book = Book.full(Layout([[1, 0], [1, 2], [0, 2]]))
        self.assertIsInstance(book, Book)
        self.assertEqual(list(book), list(permutations(range(3))))

    def test_square(self):
        # 0-1, 1-2, 2-3 and 3-0 keep a key in common; 0-2 and 1-3 do not.
        book = Book.full(Layout([[0, 3], [0, 1], [1, 2], [2, 3]]))
        apart = ({0, 2}, {1, 3})
        wanted = [triple for triple in permutations(range(4), 3) if set(triple[1:]) not in apart]
        self.assertEqual(list(book), wanted)
        self.assertEqual(len(book), 16)

    def test_only_copies_of_the_layout(self):
        self.assertEqual(list(Book.full(Layout([[0], [0]]))), [])
        self.assertEqual(list(Book.full(Layout([[0], [0], []]))), [(2, 0, 1), (2, 1, 0)])
        self.assertEqual(list(Book.full(Layout([[0]]))), [])
        self.assertEqual(list(Book.full(Layout([[0], [1], [2]]))), [])

    def test_six_copies(self):
        self.assertEqual(list(Book.full(Layout([[7]] * 6))), ALL)
        self.assertEqual(list(Book.full(Layout([[]] * 6))), [])

    def test_new_each_time(self):
        layout = Layout([[0], [0], [0]])
        book = Book.full(layout)
        book -= Book([A])
        self.assertIn(A, Book.full(layout))


class OperatorsTest(unittest.TestCase):
    def check(self, result, wanted, first, second):
        """Check a new book, and that changing it leaves the two others alone."""
        self.assertIsInstance(result, Book)
        self.assertEqual(list(result), sorted(wanted))
        before = [list(first), list(second)]
        result |= Book([(3, 4, 5)])
        result -= Book([A, B, C])
        self.assertEqual([list(first), list(second)], before)

    def test_new_books(self):
        for ours, theirs in some_pairs():
            first, second = Book(ours), Book(theirs)
            a, b = set(ours), set(theirs)
            with self.subTest((ours, theirs)):
                self.check(first | second, a | b, first, second)
                self.check(first & second, a & b, first, second)
                self.check(first - second, a - b, first, second)
                self.check(first ^ second, a ^ b, first, second)
                self.assertEqual([list(first), list(second)], [sorted(a), sorted(b)])

    def test_or_with_an_empty_book_is_new(self):
        for make in (lambda a, b: a | b, lambda a, b: a - b, lambda a, b: a ^ b):
            book = Book([A])
            same = make(book, Book())
            self.assertIsNot(same, book)
            book |= Book([B])
            self.assertEqual(list(same), [A])

    def test_in_place_or(self):
        for ours, theirs in some_pairs():
            book, other = Book(ours), Book(theirs)
            name, row = book, [book]
            book |= other
            with self.subTest((ours, theirs)):
                self.assertIs(book, name)
                self.assertEqual(list(name), sorted(set(ours) | set(theirs)))
                self.assertEqual(list(row[0]), list(book))
                self.assertEqual(len(name), len(set(ours) | set(theirs)))
                self.assertEqual(list(other), sorted(theirs))

    def test_in_place_sub(self):
        for ours, theirs in some_pairs():
            book, other = Book(ours), Book(theirs)
            name, row = book, [book]
            book -= other
            with self.subTest((ours, theirs)):
                self.assertIs(book, name)
                self.assertEqual(list(name), sorted(set(ours) - set(theirs)))
                self.assertEqual(list(row[0]), list(book))
                self.assertEqual(len(name), len(set(ours) - set(theirs)))
                self.assertEqual(list(other), sorted(theirs))

    def test_in_place_then_the_other_changes(self):
        book, other = Book([A]), Book([B])
        book |= other
        other |= Book([C])
        self.assertEqual(list(book), [A, B])
        book -= other
        other -= Book([B])
        self.assertEqual(list(book), [A])
        self.assertEqual(list(other), [C])

    def test_in_place_in_a_function(self):
        def add(book):
            book |= Book([D])

        book = Book([A])
        add(book)
        self.assertEqual(list(book), [A, D])
        self.assertIn(D, book)
        self.assertEqual(book.lines_of(5), [(4, 3)])

    def test_orders(self):
        for ours, theirs in some_pairs():
            first, second = Book(ours), Book(theirs)
            a, b = set(ours), set(theirs)
            with self.subTest((ours, theirs)):
                self.assertIs(first <= second, a <= b)
                self.assertIs(first < second, a < b)
                self.assertIs(first == second, a == b)
                self.assertIs(first != second, a != b)
                self.assertEqual([list(first), list(second)], [sorted(a), sorted(b)])

    def test_orders_of_few(self):
        small, great, other = Book([A]), Book([B, A]), Book([C, D])
        self.assertTrue(small <= great and small < great and small <= small)
        self.assertFalse(small < small or great <= small or great < small)
        self.assertFalse(small <= other or small < other)
        self.assertTrue(Book() <= Book() and Book() < small)
        self.assertFalse(Book() < Book())

    def test_equal(self):
        self.assertTrue(Book([B, A, B]) == Book((A, B)))
        self.assertFalse(Book([A]) == Book([B]))
        self.assertFalse(Book([A]) == Book())

    def test_equal_after_changes(self):
        first, second = Book([D, A]), Book([D])
        second |= Book([A])
        self.assertTrue(first == second)
        self.assertEqual(list(first), list(second))


class JoinedTest(unittest.TestCase):
    def test_joined(self):
        self.assertEqual(list(joined()), [])
        self.assertIsInstance(joined(), Book)
        self.assertEqual(list(joined(Book([B, A]))), [A, B])
        self.assertEqual(list(joined(Book([D, B]), Book([A, B]))), [A, B, D])
        self.assertEqual(list(joined(Book([D]), Book(), Book([C, A]))), [A, C, D])

    def test_same_book_twice(self):
        book = Book([A])
        self.assertEqual(list(joined(book, book)), [A])

    def test_joined_is_new(self):
        first, second = Book([A]), Book([B])
        one, both = joined(first), joined(first, second)
        self.assertIsNot(one, first)
        one |= Book([D])
        both -= Book([A])
        self.assertEqual([list(first), list(second)], [[A], [B]])
        first |= Book([C])
        second -= Book([B])
        self.assertEqual([list(one), list(both)], [[A, D], [B]])

    def test_none_passed_is_new_each_time(self):
        book = joined()
        book |= Book([A])
        self.assertEqual(list(joined()), [])


if __name__ == "__main__":
    unittest.main()
