"""Tests of partkeepers.letters: points [7] to [9], and [2] and [5] as far as they speak of letters."""

import unittest
from itertools import permutations

from model import carried_lines, lines_of

from partkeepers.books import Book
from partkeepers.errors import BadLetter, KeeperError, NoLine
from partkeepers.layouts import Layout
from partkeepers.letters import Letter, carried, pack, unpack

ALL = list(permutations(range(6), 3))
TRIANGLE = [[1, 0], [1, 2], [0, 2]]
SQUARE = [[0, 3], [0, 1], [1, 2], [2, 3]]
LAYOUTS = (
    TRIANGLE,
    SQUARE,
    [[0], [0]],
    [[0, 7], [0], [], [7, 0]],
    [[0, 1, 2], [0, 3], [1, 3, 4], [4, 5], [5, 0, 6]],
    [[0, 5], [0, 1], [1, 2], [2, 3], [3, 4], [4, 5]],
    [[0]] * 6,
)
BOOKS = ([], ALL, ALL[::2], ALL[1::2], ALL[::3], ALL[5::7], ALL[40:80])


def pairs():
    """Yield all layouts with all books, as a layout, a book and what they are made of."""
    for rows in LAYOUTS:
        for counts in BOOKS:
            yield Layout(rows), Book(counts), rows, set(counts)


class CarriedTest(unittest.TestCase):
    def setUp(self):
        self.four = Layout([[0]] * 4)

    def test_stand_in_their_file(self):
        for thing in (Letter, carried, pack, unpack):
            self.assertEqual(thing.__module__, "partkeepers.letters")

    def test_count_of_none(self):
        for line in self.four.lines():
            self.assertEqual(carried(self.four, Book(), *line), [line])

    def test_count_of_the_sender(self):
        # Copy 2 counts the line from 0 to its taker 3.
        self.assertEqual(carried(self.four, Book([(2, 0, 3)]), 2, 3), [(0, 3), (2, 3)])
        self.assertEqual(carried(self.four, Book([(2, 0, 3)]), 2, 1), [(2, 1)])
        self.assertEqual(carried(self.four, Book([(2, 0, 3)]), 1, 3), [(1, 3)])

    def test_count_of_the_taker(self):
        # Copy 3 counts the line from its sender 2 to 0.
        self.assertEqual(carried(self.four, Book([(3, 2, 0)]), 2, 3), [(2, 0), (2, 3)])
        self.assertEqual(carried(self.four, Book([(3, 2, 0)]), 1, 3), [(1, 3)])
        self.assertEqual(carried(self.four, Book([(3, 2, 0)]), 2, 1), [(2, 1)])

    def test_count_of_both(self):
        line = (0, 1)
        self.assertEqual(carried(self.four, Book([(2, *line)]), 2, 3), [(2, 3)])
        self.assertEqual(carried(self.four, Book([(3, *line)]), 2, 3), [(2, 3)])
        self.assertEqual(carried(self.four, Book([(2, *line), (3, *line)]), 2, 3), [line, (2, 3)])

    def test_full_book(self):
        layout = Layout(TRIANGLE)
        full = Book.full(layout)
        self.assertEqual(carried(layout, full, 0, 1), [(0, 1), (0, 2), (2, 1)])
        self.assertEqual(carried(layout, full, 1, 2), [(0, 2), (1, 0), (1, 2)])

    def test_counts_without_an_effect(self):
        layout = Layout(SQUARE)
        # (0, 2) and (1, 3) are no lines, and there is no copy 4 or 5.
        book = Book([(1, 0, 2), (1, 2, 0), (0, 1, 3), (3, 2, 0), (4, 0, 1), (0, 4, 1), (1, 0, 5), (5, 1, 2)])
        for line in layout.lines():
            self.assertEqual(carried(layout, book, *line), [line])
        for line in layout.lines():
            wanted = carried(layout, Book.full(layout), *line)
            self.assertEqual(carried(layout, Book(ALL), *line), wanted)

    def test_against_the_definition(self):
        for layout, book, rows, counts in pairs():
            for line in layout.lines():
                found = carried(layout, book, *line)
                self.assertEqual(found, carried_lines(rows, counts, *line))
                self.assertEqual(found, sorted(found))
                self.assertIn(line, found)

    def test_no_line(self):
        for rows in LAYOUTS:
            layout = Layout(rows)
            numbers = (-1000, -1, *range(len(rows) + 1), 6, 10**20)
            for sender in numbers:
                for taker in numbers:
                    if (sender, taker) in lines_of(rows):
                        continue
                    for book in (Book(), Book(ALL)):
                        with self.subTest((rows, sender, taker)), self.assertRaises(NoLine) as caught:
                            carried(layout, book, sender, taker)
                        self.assertEqual((caught.exception.sender, caught.exception.taker), (sender, taker))

    def test_book_changes_afterwards(self):
        layout = Layout(TRIANGLE)
        book = Book.full(layout)
        before = carried(layout, book, 0, 1)
        book -= Book.full(layout)
        self.assertEqual(before, [(0, 1), (0, 2), (2, 1)])
        self.assertEqual(carried(layout, book, 0, 1), [(0, 1)])
        book |= Book([(1, 0, 2)])
        self.assertEqual(carried(layout, book, 0, 1), [(0, 1), (0, 2)])

    def test_new_list_each_time_and_nothing_changes(self):
        layout = Layout(TRIANGLE)
        book = Book.full(layout)
        carried(layout, book, 0, 1).clear()
        self.assertEqual(carried(layout, book, 0, 1), [(0, 1), (0, 2), (2, 1)])
        self.assertEqual(list(book), list(permutations(range(3))))
        self.assertEqual(layout, Layout(TRIANGLE))


class LetterTest(unittest.TestCase):
    def test_fields(self):
        for counts in ([(0, 1, 2), (0, 2, 1)], ((0, 1, 2), (0, 2, 1))):
            letter = Letter(0, 1, 7, 123456, counts)
            self.assertEqual((letter.sender, letter.taker, letter.key, letter.value), (0, 1, 7, 123456))
            self.assertEqual(letter.counts, ((0, 1, 2), (0, 2, 1)))
            self.assertIsInstance(letter.counts, tuple)
            self.assertEqual([type(count) for count in letter.counts], [tuple, tuple])

    def test_fields_by_name(self):
        letter = Letter(sender=3, taker=2, key=1, value=0, counts=[(3, 2, 9)])
        self.assertEqual((letter.sender, letter.taker, letter.key, letter.value, letter.number), (3, 2, 1, 0, 9))

    def test_list_changes_afterwards(self):
        counts = [(0, 1, 2), (0, 2, 1)]
        letter = Letter(0, 1, 0, 0, counts)
        counts.append((2, 1, 1))
        counts[0] = (0, 1, 50)
        self.assertEqual(letter.counts, ((0, 1, 2), (0, 2, 1)))
        self.assertEqual(letter.number, 2)
        counts.clear()
        self.assertEqual(pack(letter), b"0100000000201")

    def test_number(self):
        counts = ((0, 1, 3), (0, 2, 4), (1, 2, 5), (2, 1, 6))
        for at, (sender, taker, number) in enumerate(counts):
            self.assertEqual(Letter(sender, taker, 0, 0, counts).number, number, at)
        self.assertEqual(Letter(1, 0, 0, 0, [(1, 0, 99)]).number, 99)
        self.assertEqual(Letter(1, 0, 0, 0, [(1, 0, 0)]).number, 0)

    def test_number_is_a_property_of_the_class(self):
        self.assertIsInstance(vars(Letter)["number"], property)


class PackTest(unittest.TestCase):
    def test_digits(self):
        for letter, packed in (
            (Letter(0, 1, 1, 25, [(0, 1, 1), (0, 2, 0), (2, 1, 0)]), b"011000025010000"),
            (Letter(0, 1, 0, 0, [(0, 1, 1)]), b"01000000001"),
            (Letter(5, 4, 7, 999999, [(5, 4, 99)]), b"54799999999"),
            (Letter(3, 0, 2, 10, [(3, 0, 10), (3, 1, 9), (4, 0, 0)]), b"302000010100900"),
            (Letter(1, 2, 3, 100000, [(0, 2, 99), (1, 2, 10)]), b"1231000009910"),
            (Letter(1, 2, 3, 99999, [(1, 2, 9)]), b"12309999909"),
        ):
            self.assertEqual(pack(letter), packed)
            self.assertIs(type(pack(letter)), bytes)

    def test_each_value_length(self):
        for value in (0, 1, 9, 10, 99, 100, 999, 1000, 9999, 10000, 99999, 100000, 999999):
            packed = pack(Letter(0, 1, 2, value, [(0, 1, 7)]))
            self.assertEqual(packed, b"012" + str(value).zfill(6).encode() + b"07")

    def test_each_number(self):
        for number in range(100):
            packed = pack(Letter(0, 1, 2, 345678, [(0, 1, number), (0, 2, 99 - number)]))
            self.assertEqual(packed, b"012345678" + f"{number:02d}{99 - number:02d}".encode())

    def test_twice_and_the_letter_stays(self):
        letter = Letter(0, 1, 1, 25, [(0, 1, 1), (0, 2, 0)])
        before = dict(vars(letter))
        self.assertEqual(pack(letter), pack(letter))
        self.assertEqual(vars(letter), before)
        self.assertEqual((letter.value, letter.counts), (25, ((0, 1, 1), (0, 2, 0))))


class UnpackTest(unittest.TestCase):
    def setUp(self):
        self.layout = Layout(TRIANGLE)
        self.full = Book.full(self.layout)

    def refuse(self, data, layout=None, book=None):
        """Check that the bytes are refused, and with no other error than BadLetter."""
        with self.subTest(data), self.assertRaises(BadLetter) as caught:
            unpack(self.layout if layout is None else layout, self.full if book is None else book, data)
        self.assertIs(type(caught.exception), BadLetter)
        self.assertIsInstance(caught.exception, KeeperError)

    def test_fields(self):
        letter = unpack(self.layout, self.full, b"011000025010307")
        self.assertIsInstance(letter, Letter)
        self.assertEqual((letter.sender, letter.taker, letter.key, letter.value), (0, 1, 1, 25))
        self.assertEqual(letter.counts, ((0, 1, 1), (0, 2, 3), (2, 1, 7)))
        self.assertEqual(letter.number, 1)

    def test_own_number_in_the_middle_and_at_the_end(self):
        letter = unpack(self.layout, self.full, b"122999999000099")
        self.assertEqual(letter.counts, ((0, 2, 0), (1, 0, 0), (1, 2, 99)))
        self.assertEqual((letter.value, letter.number), (999999, 99))
        letter = unpack(self.layout, Book(), b"10100000099")
        self.assertEqual((letter.sender, letter.taker, letter.counts), (1, 0, ((1, 0, 99),)))

    def test_there_and_back(self):
        for layout, book, rows, counts in pairs():
            for at, (sender, taker) in enumerate(layout.lines()):
                lines = carried_lines(rows, counts, sender, taker)
                numbers = [(at * 31 + place * 17) % 99 + 1 for place in range(len(lines))]
                told = [(*line, number) for line, number in zip(lines, numbers)]
                for key in layout.shared(sender, taker):
                    for value in (0, 7, 40302, 999999):
                        packed = pack(Letter(sender, taker, key, value, told))
                        letter = unpack(layout, book, packed)
                        self.assertEqual((letter.sender, letter.taker), (sender, taker))
                        self.assertEqual((letter.key, letter.value), (key, value))
                        self.assertEqual(letter.counts, tuple(told))
                        self.assertEqual(pack(letter), packed)

    def test_too_short(self):
        whole = b"011000025010000"
        for many in range(len(whole)):
            self.refuse(whole[:many])
        self.refuse(b"")
        for many in range(1, 9):
            self.refuse(b"0" * many)
            self.refuse(b"1" * many)

    def test_too_short_without_any_count(self):
        # Nine digits alone are too few, as each line carries itself.
        self.refuse(b"011000025", book=Book())
        self.refuse(b"0110000250", book=Book())

    def test_no_digit(self):
        whole = b"011000025010203"
        unpack(self.layout, self.full, whole)
        for at in range(len(whole)):
            for number in (*range(48), *range(58, 256)):
                self.refuse(whole[:at] + bytes([number]) + whole[at + 1 :])

    def test_digits_of_other_alphabets(self):
        for text in ("\u0661", "\u0967", "\u00b2", "\uff11"):
            self.refuse(b"011000025" + text.encode() + b"010203")
            self.refuse(text.encode() * 9)

    def test_signs_blanks_and_underscores(self):
        for data in (
            b"011+00025010203",
            b"011-00025010203",
            b"011 00025010203",
            b"0110_0025010203",
            b"01100002501 203",
            b"0110000250102+3",
            b"011000025010203\n",
            b" 011000025010203",
            b"011000025010203\x00",
        ):
            self.refuse(data)

    def test_no_line(self):
        for rows in (TRIANGLE, SQUARE, [[0], [0]], [[0, 1], [], [0, 1]]):
            layout = Layout(rows)
            for book in (Book(), Book.full(layout)):
                for sender in range(10):
                    for taker in range(10):
                        if (sender, taker) in lines_of(rows):
                            continue
                        for key in (0, 1):
                            for many in range(1, 7):
                                self.refuse(f"{sender}{taker}{key}000025".encode() + b"01" * many, layout, book)

    def test_key_that_not_both_keep(self):
        layout = Layout([[0, 1, 3], [0, 2, 3], [4]])
        wanted = {0, 3}
        for key in range(10):
            data = f"01{key}00002501".encode()
            if key in wanted:
                self.assertEqual(unpack(layout, Book(), data).key, key)
            else:
                self.refuse(data, layout, Book())

    def test_key_eight_and_nine(self):
        layout = Layout([list(range(8))] * 2)
        for key in range(8):
            self.assertEqual(unpack(layout, Book(), f"10{key}12345678".encode()).key, key)
        self.refuse(b"10812345678", layout, Book())
        self.refuse(b"10912345678", layout, Book())

    def test_length(self):
        whole = b"011000025010203"
        for more in (b"0", b"1", b"00", b"01", b"000", b"0102", b"0" * 100):
            self.refuse(whole + more)
        for less in (1, 2, 3, 4, 5, 6):
            self.refuse(whole[:-less])

    def test_length_goes_by_the_book(self):
        book = Book([(1, 0, 2)])
        self.assertEqual(unpack(self.layout, book, b"0110000250102").counts, ((0, 1, 1), (0, 2, 2)))
        self.refuse(b"011000025010203", book=book)
        self.refuse(b"01100002501", book=book)
        self.refuse(b"0110000250102")

    def test_own_number_zero(self):
        self.refuse(b"011000025000203")
        self.refuse(b"122999999050500")
        self.refuse(b"01100002500", book=Book())
        for number in range(1, 100):
            self.assertEqual(unpack(self.layout, Book(), f"011000025{number:02d}".encode()).number, number)

    def test_other_numbers_may_be_zero(self):
        self.assertEqual(unpack(self.layout, self.full, b"011000025010000").counts, ((0, 1, 1), (0, 2, 0), (2, 1, 0)))
        self.assertEqual(unpack(self.layout, self.full, b"122000000000001").counts, ((0, 2, 0), (1, 0, 0), (1, 2, 1)))

    def test_nothing_else_is_checked(self):
        # Numbers may be anything that two digits tell, and values anything that six do.
        letter = unpack(self.layout, self.full, b"011999999019999")
        self.assertEqual((letter.value, letter.counts), (999999, ((0, 1, 1), (0, 2, 99), (2, 1, 99))))

    def test_arguments_stay_the_same(self):
        unpack(self.layout, self.full, b"011000025010203")
        self.refuse(b"011000025000203")
        self.assertEqual(self.layout, Layout(TRIANGLE))
        self.assertEqual(list(self.full), list(permutations(range(3))))

    def test_each_head(self):
        layout = Layout([[0, 3], [0, 1], [1, 2], [2, 3]])
        for head in range(1000):
            sender, taker, key = head // 100, head // 10 % 10, head % 10
            data = f"{head:03d}00000001".encode()
            kept = sender != taker and (sender, key) in layout and (taker, key) in layout
            if kept:
                self.assertEqual(pack(unpack(layout, Book(), data)), data)
            else:
                self.refuse(data, layout, Book())


if __name__ == "__main__":
    unittest.main()
