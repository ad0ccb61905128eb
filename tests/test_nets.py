"""Tests of partkeepers.nets: points [10] to [14], and [2] and [5] as far as they speak of nets.

Each class makes its nets with `kind`, so that test_watches.py can run all of
this with watched nets, too.
"""

import inspect
import random
import unittest
from itertools import permutations

from model import Model, Refused, lines_of, shown

from partkeepers.books import Book
from partkeepers.errors import BadValue, HeldBack, KeeperError, Lacking, LineFull
from partkeepers.errors import NoCopy, NoLetter, NoLine, NotKept, TooEarly
from partkeepers.layouts import Layout
from partkeepers.letters import Letter, carried, unpack
from partkeepers.nets import Hold, Net

ALL = list(permutations(range(6), 3))
TRIANGLE = [[1, 0], [1, 2], [0, 2]]
SQUARE = [[0, 3], [0, 1], [1, 2], [2, 3]]
FAR = (-(10**20), -7, -1, 6, 8, 100, 10**20)


def fields(error):
    """Return the class and the fields of an error, and those of the error it is raised from."""
    cause = error.__cause__
    return (type(error).__name__, vars(error), None if cause is None else vars(cause))


def outcome(call, *arguments):
    """Return what the call returns or how it is refused, for the program and the model alike."""
    try:
        return call(*arguments)
    except KeeperError as error:
        return fields(error)
    except Refused as refused:
        return refused.told


class NetCase(unittest.TestCase):
    kind = Net

    def make(self, rows, counts=()):
        return self.kind(Layout(rows), Book(counts))

    def full(self, rows):
        layout = Layout(rows)
        return self.kind(layout, Book.full(layout))

    def refuse(self, net, rows, wanted, call, *arguments):
        """Check that a call is refused twice in the same way and changes nothing."""
        before = shown(net, rows)
        for _ in range(2):
            with self.subTest(arguments), self.assertRaises(KeeperError) as caught:
                call(*arguments)
            self.assertEqual(fields(caught.exception)[:2], wanted)
            self.assertEqual(shown(net, rows), before)
        return caught.exception


class NewNetTest(NetCase):
    def test_stands_in_its_file(self):
        self.assertEqual([Net.__module__, Hold.__module__], ["partkeepers.nets"] * 2)
        for name in ("__getitem__", "__setitem__", "write", "take", "ready", "settle", "on_way"):
            self.assertIn(name, vars(Net))
        for name in ("known", "taken", "held"):
            self.assertIn(name, vars(Net))
        for name in ("waiting", "back"):
            self.assertIsInstance(vars(Net)[name], property)
        for name in ("__enter__", "__exit__"):
            self.assertIn(name, vars(Hold))

    def test_all_is_zero_at_first(self):
        for rows in (TRIANGLE, SQUARE, [[]], [[3]], [[0]] * 6, [[0], [], [0, 7]]):
            for counts in ((), ALL, ALL[::3]):
                net = self.make(rows, counts)
                self.assertEqual(shown(net, rows), Model(rows, counts).state())
                self.assertEqual((net.waiting, net.back, list(net.ready()), net.settle()), (0, [], [], []))
                for copy, row in enumerate(rows):
                    self.assertEqual([net[copy, key] for key in row], [0] * len(row))
                    self.assertTrue(all(number == 0 for _, _, number in net.known(copy)))
                    self.assertTrue(all(number == 0 for _, number in net.taken(copy)))

    def test_arguments_by_name(self):
        net = self.kind(layout=Layout(TRIANGLE), book=Book())
        net.write(copy=0, key=1, value=5)
        self.assertEqual(net.take(sender=0, taker=1), (1, 5))

    def test_book_changes_afterwards(self):
        layout = Layout(TRIANGLE)
        for counts, change in (((), ALL), (ALL, ())):
            book = Book(counts)
            net = self.kind(layout, book)
            book |= Book(change)
            book -= Book([count for count in ALL if count not in change])
            self.assertEqual(list(book), sorted(change))
            net.write(0, 0, 1)
            net.write(0, 1, 2)
            net.take(0, 1)
            net.write(1, 2, 3)
            model = Model(TRIANGLE, counts)
            model.write(0, 0, 1)
            model.write(0, 1, 2)
            model.take(0, 1)
            model.write(1, 2, 3)
            self.assertEqual(shown(net, TRIANGLE), model.state())
            self.assertEqual(outcome(net.take, 1, 2), outcome(model.take, 1, 2))

    def test_two_nets_share_nothing(self):
        layout = Layout(TRIANGLE)
        book = Book.full(layout)
        first, second = self.kind(layout, book), self.kind(layout, book)
        fresh = shown(second, TRIANGLE)
        first.write(0, 0, 1)
        first.write(0, 1, 2)
        first.take(0, 1)
        hold = first.held(0, 2)
        with hold:
            self.assertEqual(shown(second, TRIANGLE), fresh)
            second.write(0, 0, 9)
            self.assertEqual(second.take(0, 2), (0, 9))
        self.assertEqual(first.take(0, 2), (0, 1))
        self.assertEqual(shown(self.kind(layout, book), TRIANGLE), fresh)
        self.assertEqual(layout, Layout(TRIANGLE))
        self.assertEqual(list(book), list(permutations(range(3))))


class WriteTest(NetCase):
    def test_lines_and_value(self):
        rows = [[0, 1, 2, 7], [0], [1, 0], [3], [0, 7]]
        net = self.make(rows)
        self.assertEqual(net.write(0, 0, 1), [(0, 1), (0, 2), (0, 4)])
        self.assertEqual(net.write(0, 1, 2), [(0, 2)])
        self.assertEqual(net.write(0, 2, 3), [])
        self.assertEqual(net.write(0, 7, 4), [(0, 4)])
        self.assertEqual(net.write(4, 0, 5), [(4, 0), (4, 1), (4, 2)])
        self.assertEqual(net.write(3, 3, 6), [])
        self.assertEqual([net[0, key] for key in (0, 1, 2, 7)], [1, 2, 3, 4])
        self.assertEqual([net[4, 0], net[4, 7], net[3, 3]], [5, 0, 6])
        self.assertEqual([net[1, 0], net[2, 0], net[2, 1]], [0, 0, 0])
        self.assertEqual(net.waiting, 8)

    def test_item_form(self):
        first, second = self.full(TRIANGLE), self.full(TRIANGLE)
        first[0, 0] = 11
        first[1, 1] = 0
        second.write(0, 0, 11)
        second.write(1, 1, 0)
        self.assertEqual(shown(first, TRIANGLE), shown(second, TRIANGLE))
        self.assertIsNone(first.__setitem__((0, 1), 3))
        self.assertEqual(first[0, 1], 3)

    def test_values_at_the_edges(self):
        net = self.make(TRIANGLE)
        for value in (0, 1, 999999, 10, 0):
            net.write(0, 0, value)
            self.assertEqual(net[0, 0], value)
            self.assertEqual(net.take(0, 2), (0, value))
            self.assertEqual(net[2, 0], value)

    def test_not_kept(self):
        net = self.full(TRIANGLE)
        net.write(0, 0, 5)
        places = [(0, 2), (1, 0), (2, 1), (0, 7), (0, -1), (3, 0), (-1, 0), (-1, 2), (-3, 0)]
        places += [(far, 0) for far in FAR] + [(0, far) for far in FAR] + [(far, far) for far in FAR]
        for copy, key in places:
            wanted = ("NotKept", {"copy": copy, "key": key})
            self.refuse(net, TRIANGLE, wanted, net.write, copy, key, 1)
            self.refuse(net, TRIANGLE, wanted, net.write, copy, key, -1)
            self.refuse(net, TRIANGLE, wanted, net.__setitem__, (copy, key), 1)
            self.refuse(net, TRIANGLE, wanted, net.__setitem__, (copy, key), 1000000)
            self.refuse(net, TRIANGLE, wanted, net.__getitem__, (copy, key))

    def test_bad_value(self):
        rows = TRIANGLE + [[4]]
        net = self.full(rows)
        net.write(0, 0, 5)
        for value in (-1, 1000000, 1000001, -999999, -(10**20), 10**20):
            wanted = ("BadValue", {"value": value})
            for copy, key in ((0, 0), (1, 2), (3, 4)):
                self.refuse(net, rows, wanted, net.write, copy, key, value)
                self.refuse(net, rows, wanted, net.__setitem__, (copy, key), value)
        self.assertEqual(net[0, 0], 5)

    def test_errors_of_the_item_form(self):
        net = self.make(TRIANGLE)
        with self.assertRaises(NotKept):
            net[0, 2] = 1
        with self.assertRaises(NotKept):
            net[0, 2]
        with self.assertRaises(BadValue):
            net[0, 0] = -1
        for _ in range(99):
            net[0, 0] = 1
        with self.assertRaises(LineFull):
            net[0, 0] = 1

    def test_returned_list_is_new(self):
        net = self.full(TRIANGLE)
        lines = net.write(0, 0, 1)
        lines.clear()
        self.assertEqual(net.on_way(0, 2), [b"020000001000100"])
        self.assertEqual(net.write(0, 0, 2), [(0, 2)])


class FullLineTest(NetCase):
    def test_hundredth_letter(self):
        rows = [[0], [0]]
        net = self.make(rows)
        for value in range(99):
            self.assertEqual(net.write(0, 0, value), [(0, 1)])
        wanted = ("LineFull", {"sender": 0, "taker": 1})
        self.refuse(net, rows, wanted, net.write, 0, 0, 7)
        self.refuse(net, rows, wanted, net.__setitem__, (0, 0), 7)
        self.assertEqual(net[0, 0], 98)
        self.assertEqual(net.waiting, 99)
        self.assertEqual(net.known(0), [(0, 1, 99)])
        self.assertEqual(net.on_way(0, 1)[-1], b"01000009899")

    def test_taken_letters_count_as_well(self):
        rows = [[0], [0]]
        net = self.make(rows)
        for value in range(99):
            net.write(0, 0, value)
            if value % 3 == 0:
                net.take(0, 1)
        self.assertEqual(net.waiting, 66)
        wanted = ("LineFull", {"sender": 0, "taker": 1})
        self.refuse(net, rows, wanted, net.write, 0, 0, 5)
        self.assertEqual(net.settle(), [(0, 1)] * 66)
        self.assertEqual([net.waiting, net[1, 0], net.taken(1)], [0, 98, [(0, 99)]])
        self.refuse(net, rows, wanted, net.write, 0, 0, 5)

    def test_other_lines_are_not_full(self):
        rows = [[0, 1, 5], [0, 1], [0, 2], [0]]
        net = self.full(rows)
        for _ in range(99):
            net.write(0, 1, 4)
        wanted = ("LineFull", {"sender": 0, "taker": 1})
        self.refuse(net, rows, wanted, net.write, 0, 0, 8)
        self.assertEqual([net[0, 0], net.on_way(0, 2), net.on_way(0, 3)], [0, [], []])
        self.assertEqual(net.write(0, 5, 1), [])
        self.assertEqual(net.write(1, 1, 1), [(1, 0)])
        self.assertEqual(net.write(2, 0, 1), [(2, 0), (2, 1), (2, 3)])

    def test_first_full_line(self):
        rows = [[0, 1, 2], [0], [0, 1], [0, 2]]
        for keys, taker in (((2,), 3), ((2, 1), 2), ((1,), 2), ((1, 2), 2), ((0,), 1)):
            net = self.make(rows)
            for key in keys:
                for _ in range(99):
                    net.write(0, key, 1)
            wanted = ("LineFull", {"sender": 0, "taker": taker})
            self.refuse(net, rows, wanted, net.write, 0, 0, 8)

    def test_order_of_errors(self):
        rows = [[0], [0]]
        net = self.make(rows)
        for _ in range(99):
            net.write(0, 0, 1)
        self.refuse(net, rows, ("BadValue", {"value": -1}), net.write, 0, 0, -1)
        self.refuse(net, rows, ("BadValue", {"value": 1000000}), net.write, 0, 0, 1000000)
        self.refuse(net, rows, ("NotKept", {"copy": 0, "key": 1}), net.write, 0, 1, -1)

    def test_key_that_nobody_else_keeps(self):
        net = self.make([[0, 1], [0]])
        for value in range(300):
            self.assertEqual(net.write(0, 1, value), [])
        self.assertEqual([net[0, 1], net.waiting, net.known(0)], [299, 0, [(0, 1, 0)]])
        self.assertEqual(net.write(0, 0, 1), [(0, 1)])


class NumbersTest(NetCase):
    def test_example(self):
        net = self.full(TRIANGLE)
        net.write(0, 1, 25)
        self.assertEqual(net.on_way(0, 1), [b"011000025010000"])

    def test_own_number_grows(self):
        net = self.make(TRIANGLE)
        for number in range(1, 100):
            net.write(0, 0, number)
            self.assertEqual(net.on_way(0, 2)[-1], f"020{number:06d}{number:02d}".encode())
        self.assertEqual(net.known(0), [(0, 1, 0), (0, 2, 99)])

    def test_all_lines_of_a_write_grow_before_its_letters(self):
        net = self.full([[0]] * 3)
        net.write(0, 0, 1)
        self.assertEqual(net.on_way(0, 1), [b"010000001010100"])
        self.assertEqual(net.on_way(0, 2), [b"020000001010100"])
        net.write(0, 0, 2)
        self.assertEqual(net.on_way(0, 1), [b"010000001010100", b"010000002020200"])

    def test_numbers_of_the_time_of_the_write(self):
        layout = Layout(TRIANGLE)
        book = Book.full(layout)
        net = self.kind(layout, book)
        net.write(0, 1, 1)
        net.write(0, 0, 2)
        net.write(0, 1, 3)
        told = [unpack(layout, book, data).counts for data in net.on_way(0, 1)]
        self.assertEqual(told, [((0, 1, 1), (0, 2, 0), (2, 1, 0)), ((0, 1, 2), (0, 2, 1), (2, 1, 0))])

    def test_numbers_learned_are_handed_on(self):
        net = self.full(TRIANGLE)
        net.write(0, 0, 1)
        net.write(0, 1, 2)
        net.take(0, 1)
        net.write(1, 2, 3)
        # Copy 1 has learned of the letter from 0 to 2, and copy 2 is told.
        self.assertEqual(net.on_way(1, 2), [b"122000003010001"])

    def test_letters_carry_the_carried_lines(self):
        for rows in (TRIANGLE, SQUARE, [[0]] * 4):
            for counts in ((), ALL, ALL[::2], ALL[1::3]):
                layout, book = Layout(rows), Book(counts)
                net = self.kind(layout, book)
                for copy, key in ((0, 0), (1, rows[1][0]), (2, rows[2][0])):
                    for line in net.write(copy, key, 6):
                        letter = unpack(layout, book, net.on_way(*line)[-1])
                        self.assertEqual([count[:2] for count in letter.counts], carried(layout, book, *line))
                        self.assertEqual((letter.sender, letter.taker, letter.key, letter.value), (*line, key, 6))
                        self.assertEqual(letter.number, 1)


class TakeTest(NetCase):
    def early(self, net):
        """Let copy 2 have two letters on the way, of which the second one must wait for the first."""
        net.write(0, 0, 1)
        net.write(0, 1, 2)
        net.take(0, 1)
        net.write(1, 2, 3)
        return net

    def test_takes_in_order(self):
        net = self.make(TRIANGLE)
        net.write(0, 0, 5)
        net.write(0, 0, 6)
        self.assertEqual(net.take(0, 2), (0, 5))
        self.assertEqual([net[2, 0], net.taken(2), net.waiting], [5, [(0, 1), (1, 0)], 1])
        self.assertEqual(net.on_way(0, 2), [b"02000000602"])
        self.assertEqual(net.take(0, 2), (0, 6))
        self.assertEqual([net[2, 0], net.taken(2), net.waiting], [6, [(0, 2), (1, 0)], 0])
        self.assertEqual([net[0, 0], net[0, 1]], [6, 0])

    def test_last_taken_value_wins(self):
        net = self.make([[0]] * 3)
        net.write(0, 0, 1)
        net.write(1, 0, 2)
        net.write(2, 0, 3)
        self.assertIsInstance(net.take(1, 2), tuple)
        self.assertEqual(net[2, 0], 2)
        net.take(0, 2)
        self.assertEqual([net[2, 0], net[0, 0], net[1, 0]], [1, 1, 2])

    def test_no_line(self):
        for rows in (TRIANGLE, SQUARE, [[]]):
            net = self.full(rows)
            numbers = (*range(-1, len(rows) + 1), *FAR)
            for sender in numbers:
                for taker in numbers:
                    if (sender, taker) not in lines_of(rows):
                        wanted = ("NoLine", {"sender": sender, "taker": taker})
                        self.refuse(net, rows, wanted, net.take, sender, taker)

    def test_no_letter(self):
        net = self.full(TRIANGLE)
        for line in Layout(TRIANGLE).lines():
            wanted = ("NoLetter", {"sender": line[0], "taker": line[1]})
            self.refuse(net, TRIANGLE, wanted, net.take, *line)
        net.write(0, 0, 1)
        net.take(0, 2)
        self.refuse(net, TRIANGLE, ("NoLetter", {"sender": 0, "taker": 2}), net.take, 0, 2)

    def test_too_early(self):
        net = self.early(self.full(TRIANGLE))
        wanted = ("TooEarly", {"sender": 1, "taker": 2, "lacking": ((0, 1, 0),)})
        error = self.refuse(net, TRIANGLE, wanted, net.take, 1, 2)
        self.assertIsInstance(error, TooEarly)
        self.assertIs(type(error.__cause__), Lacking)
        self.assertEqual((error.__cause__.other, error.__cause__.needed, error.__cause__.present), (0, 1, 0))
        self.assertEqual(net[2, 2], 0)
        self.assertEqual(net.take(0, 2), (0, 1))
        self.assertEqual(net.take(1, 2), (2, 3))

    def test_not_early_where_the_count_lacks(self):
        layout = Layout(TRIANGLE)
        net = self.early(self.kind(layout, Book.full(layout) - Book([(1, 0, 2)])))
        self.assertEqual(net.take(1, 2), (2, 3))

    def test_early_where_another_count_lacks(self):
        layout = Layout(TRIANGLE)
        net = self.early(self.kind(layout, Book.full(layout) - Book([(2, 0, 1)])))
        self.refuse(net, TRIANGLE, ("TooEarly", {"sender": 1, "taker": 2, "lacking": ((0, 1, 0),)}), net.take, 1, 2)

    def test_all_that_is_lacking(self):
        rows = [[0]] * 4
        net = self.full(rows)
        net.write(0, 0, 1)
        net.write(1, 0, 2)
        net.write(1, 0, 3)
        net.take(0, 2)
        net.take(1, 2)
        net.take(1, 2)
        net.write(2, 0, 4)
        told = {"sender": 2, "taker": 3}
        error = self.refuse(net, rows, ("TooEarly", {**told, "lacking": ((0, 1, 0), (1, 2, 0))}), net.take, 2, 3)
        self.assertEqual(vars(error.__cause__), {"other": 0, "needed": 1, "present": 0})
        self.assertIsInstance(error.lacking, tuple)
        self.assertEqual([type(part) for part in error.lacking], [tuple, tuple])
        net.take(1, 3)
        self.refuse(net, rows, ("TooEarly", {**told, "lacking": ((0, 1, 0), (1, 2, 1))}), net.take, 2, 3)
        net.take(0, 3)
        error = self.refuse(net, rows, ("TooEarly", {**told, "lacking": ((1, 2, 1),)}), net.take, 2, 3)
        self.assertEqual(vars(error.__cause__), {"other": 1, "needed": 2, "present": 1})
        net.take(1, 3)
        self.assertEqual(net.take(2, 3), (0, 4))

    def test_taken_more_than_needed(self):
        net = self.early(self.full(TRIANGLE))
        net.write(0, 0, 8)
        net.take(0, 2)
        net.take(0, 2)
        self.assertEqual(net.take(1, 2), (2, 3))

    def test_order_of_errors(self):
        net = self.early(self.full(TRIANGLE))
        with net.held(1, 2), net.held(2, 0):
            self.refuse(net, TRIANGLE, ("HeldBack", {"sender": 1, "taker": 2}), net.take, 1, 2)
            self.refuse(net, TRIANGLE, ("HeldBack", {"sender": 2, "taker": 0}), net.take, 2, 0)
            self.refuse(net, TRIANGLE, ("NoLine", {"sender": 2, "taker": 2}), net.take, 2, 2)
            self.refuse(net, TRIANGLE, ("NoLetter", {"sender": 2, "taker": 1}), net.take, 2, 1)
        self.refuse(net, TRIANGLE, ("NoLetter", {"sender": 2, "taker": 0}), net.take, 2, 0)

    def test_error_classes(self):
        net = self.early(self.full(TRIANGLE))
        for wanted, line in ((NoLine, (0, 0)), (NoLetter, (2, 1)), (TooEarly, (1, 2))):
            with self.assertRaises(wanted):
                net.take(*line)
        with net.held(0, 2), self.assertRaises(HeldBack):
            net.take(0, 2)

    def test_known_numbers_grow(self):
        net = self.early(self.full(TRIANGLE))
        self.assertEqual(net.known(0), [(0, 1, 1), (0, 2, 1), (1, 2, 0), (2, 1, 0)])
        self.assertEqual(net.known(1), [(0, 2, 1), (1, 0, 0), (1, 2, 1), (2, 0, 0)])
        self.assertEqual(net.known(2), [(0, 1, 0), (1, 0, 0), (2, 0, 0), (2, 1, 0)])
        net.take(0, 2)
        # The letter from 0 to 2 was written before the one from 0 to 1.
        self.assertEqual(net.known(2), [(0, 1, 0), (1, 0, 0), (2, 0, 0), (2, 1, 0)])
        net.write(0, 0, 4)
        net.take(0, 2)
        self.assertEqual(net.known(2), [(0, 1, 1), (1, 0, 0), (2, 0, 0), (2, 1, 0)])

    def test_known_numbers_never_become_less(self):
        net = self.make([[0, 1, 2], [0], [1, 3], [2, 3]], [(2, 0, 1), (3, 0, 1)])
        net.write(0, 0, 1)
        net.write(0, 1, 1)
        net.take(0, 2)
        net.write(2, 3, 1)
        net.write(0, 0, 1)
        net.write(0, 2, 1)
        net.take(0, 3)
        self.assertEqual(net.known(3), [(0, 1, 2), (3, 0, 0), (3, 2, 0)])
        self.assertEqual(net.on_way(2, 3), [b"233000001" + b"01" + b"01"])
        net.take(2, 3)
        self.assertEqual(net.known(3), [(0, 1, 2), (3, 0, 0), (3, 2, 0)])

    def test_counts_without_an_effect(self):
        for rows in (TRIANGLE, SQUARE, [[0], [0], []]):
            few, many = self.full(rows), self.make(rows, ALL)
            for copy, row in enumerate(rows):
                for key in row:
                    few.write(copy, key, 4)
                    many.write(copy, key, 4)
            self.assertEqual(shown(few, rows), shown(many, rows))
            self.assertEqual(few.settle(), many.settle())
            self.assertEqual(shown(few, rows), shown(many, rows))


class AskingTest(NetCase):
    def test_known_has_the_counted_lines(self):
        net = self.make(SQUARE, [(0, 1, 2), (0, 3, 2), (0, 1, 3), (1, 0, 3), (4, 0, 1), (2, 0, 5)])
        self.assertEqual(net.known(0), [(0, 1, 0), (0, 3, 0), (1, 2, 0), (3, 2, 0)])
        self.assertEqual(net.known(1), [(0, 3, 0), (1, 0, 0), (1, 2, 0)])
        self.assertEqual(net.known(2), [(2, 1, 0), (2, 3, 0)])
        self.assertEqual(net.known(3), [(3, 0, 0), (3, 2, 0)])

    def test_taken_has_the_lines_that_end_there(self):
        net = self.full([[0], [0, 1], [2], [1, 0]])
        self.assertEqual(net.taken(0), [(1, 0), (3, 0)])
        self.assertEqual(net.taken(1), [(0, 0), (3, 0)])
        self.assertEqual(net.taken(2), [])
        net.write(3, 1, 5)
        net.take(3, 1)
        self.assertEqual(net.taken(1), [(0, 0), (3, 1)])
        self.assertEqual(net.taken(3), [(0, 0), (1, 0)])

    def test_no_copy(self):
        net = self.full(TRIANGLE)
        net.write(0, 0, 1)
        for copy in (-1, 3, -3, 4, *FAR):
            for call in (net.known, net.taken):
                error = self.refuse(net, TRIANGLE, ("NoCopy", {"copy": copy}), call, copy)
                self.assertIsInstance(error, NoCopy)
        self.assertEqual([self.make([[0]]).known(0), self.make([[0]]).taken(0)], [[], []])
        with self.assertRaises(NoCopy):
            self.make([[0]]).known(1)

    def test_no_line(self):
        net = self.full(SQUARE)
        net.write(0, 0, 1)
        for sender, taker in ((0, 0), (0, 2), (1, 3), (-1, 0), (0, -1), (4, 0), (3, 4), *[(far, 0) for far in FAR]):
            wanted = ("NoLine", {"sender": sender, "taker": taker})
            self.refuse(net, SQUARE, wanted, net.on_way, sender, taker)
            self.refuse(net, SQUARE, wanted, net.held, sender, taker)

    def test_on_way(self):
        net = self.make(TRIANGLE)
        for value in (7, 8, 9):
            net.write(0, 0, value)
        self.assertEqual(net.on_way(0, 2), [b"02000000701", b"02000000802", b"02000000903"])
        self.assertEqual([type(data) for data in net.on_way(0, 2)], [bytes] * 3)
        self.assertEqual([net.on_way(2, 0), net.on_way(0, 1)], [[], []])

    def test_waiting(self):
        net = self.make([[0, 1]] * 3)
        told = [net.waiting]
        net.write(0, 0, 1)
        told.append(net.waiting)
        net.write(1, 1, 1)
        told.append(net.waiting)
        net.take(0, 2)
        told.append(net.waiting)
        outcome(net.take, 0, 2)
        told.append(net.waiting)
        net.settle()
        self.assertEqual([*told, net.waiting], [0, 2, 4, 3, 3, 0])

    def test_returned_lists_are_new(self):
        net = self.full(TRIANGLE)
        net.write(0, 0, 1)
        net.write(0, 1, 2)
        with net.held(0, 1):
            before = shown(net, TRIANGLE)
            for change in (net.on_way(0, 2), net.known(0), net.taken(2), net.back, list(net.ready())):
                self.assertNotEqual(change, [])
                change.clear()
            self.assertEqual(shown(net, TRIANGLE), before)
        net.settle().clear()
        self.assertEqual(net.settle(), [])


class ReadyTest(NetCase):
    def test_is_a_generator(self):
        self.assertTrue(inspect.isgenerator(self.full(TRIANGLE).ready()))
        self.assertTrue(inspect.isgeneratorfunction(self.kind.ready))

    def test_ascending(self):
        net = self.make([[0]] * 4)
        net.write(3, 0, 1)
        net.write(0, 0, 1)
        net.write(2, 0, 1)
        lines = [(a, b) for a in (0, 2, 3) for b in range(4) if a != b]
        self.assertEqual(list(net.ready()), lines)
        self.assertEqual([type(line) for line in net.ready()], [tuple] * 9)

    def test_lines_that_must_wait(self):
        net = self.full(TRIANGLE)
        ready = []
        for step in (
            lambda: net.write(0, 0, 1),
            lambda: net.write(0, 1, 2),
            lambda: net.take(0, 1),
            lambda: net.write(1, 2, 3),
            lambda: net.take(0, 2),
            lambda: net.take(1, 2),
        ):
            step()
            ready.append(list(net.ready()))
        self.assertEqual(ready, [[(0, 2)], [(0, 1), (0, 2)], [(0, 2)], [(0, 2)], [(1, 2)], []])

    def test_held_lines_are_not_ready(self):
        net = self.make([[0]] * 3)
        net.write(0, 0, 1)
        net.write(1, 0, 1)
        with net.held(0, 2), net.held(1, 0):
            self.assertEqual(list(net.ready()), [(0, 1), (1, 2)])
        self.assertEqual(list(net.ready()), [(0, 1), (0, 2), (1, 0), (1, 2)])

    def test_changes_nothing(self):
        net = self.full(TRIANGLE)
        net.write(0, 0, 1)
        before = shown(net, TRIANGLE)
        self.assertEqual([list(net.ready()), list(net.ready())], [[(0, 2)], [(0, 2)]])
        self.assertEqual(shown(net, TRIANGLE), before)


class SettleTest(NetCase):
    def test_first_line_again_and_again(self):
        net = self.make([[0]] * 3)
        for copy in (2, 0, 0):
            net.write(copy, 0, copy + 5)
        self.assertEqual(net.settle(), [(0, 1), (0, 1), (0, 2), (0, 2), (2, 0), (2, 1)])
        self.assertEqual([net[0, 0], net[1, 0], net[2, 0]], [7, 7, 5])
        self.assertEqual([net.waiting, net.settle()], [0, []])

    def test_goes_back_to_a_line_that_became_ready(self):
        # The letter from 0 to 1 waits for the one from 2 to 1, and is then the first ready one again.
        net = self.full([[0, 1], [1, 2, 3], [0, 2, 3]])
        net.write(2, 2, 1)
        net.write(2, 0, 2)
        net.write(2, 3, 3)
        net.take(2, 0)
        net.write(0, 1, 4)
        self.assertEqual(list(net.ready()), [(2, 1)])
        self.assertEqual(net.settle(), [(2, 1), (0, 1), (2, 1)])
        self.assertEqual(net.settle(), [])

    def test_takes_from_a_line_again_only_in_its_turn(self):
        net = self.make([[0], [0, 1], [1]])
        net.write(1, 1, 1)
        net.write(0, 0, 2)
        net.write(1, 0, 3)
        self.assertEqual(net.settle(), [(0, 1), (1, 0), (1, 2)])

    def test_with_a_line_held(self):
        net = self.full(TRIANGLE)
        net.write(0, 0, 1)
        net.write(0, 1, 2)
        net.take(0, 1)
        net.write(1, 2, 3)
        net.write(2, 0, 4)
        with net.held(0, 2):
            # The letter from 1 to 2 waits for the one that is held.
            self.assertEqual(net.settle(), [(2, 0)])
            self.assertEqual(net.settle(), [])
            self.assertEqual([net.waiting, len(net.on_way(0, 2)), len(net.on_way(1, 2))], [2, 1, 1])
        self.assertEqual(net.settle(), [(0, 2), (1, 2)])
        self.assertEqual([net[2, 0], net[2, 2]], [1, 3])

    def test_all_letters_that_can_be(self):
        rows = [[0]] * 6
        net = self.full(rows)
        for turn in range(99):
            for copy in range(6):
                net.write(copy, 0, turn)
        self.assertEqual(net.waiting, 2970)
        lines = net.settle()
        self.assertEqual({line: lines.count(line) for line in lines}, dict.fromkeys(Layout(rows).lines(), 99))
        self.assertEqual(net.waiting, 0)


class HeldTest(NetCase):
    def setUp(self):
        self.net = self.make([[0, 1]] * 3)
        self.net.write(0, 0, 5)
        self.net.write(1, 1, 6)

    def check_held(self, *lines):
        self.assertEqual(self.net.back, list(lines))
        waiting = [(0, 1), (0, 2), (1, 0), (1, 2)]
        self.assertEqual(list(self.net.ready()), [line for line in waiting if line not in lines])
        for line in lines:
            with self.assertRaises(HeldBack) as caught:
                self.net.take(*line)
            self.assertEqual((caught.exception.sender, caught.exception.taker), line)

    def test_inside_and_after(self):
        self.check_held()
        with self.net.held(0, 1):
            self.check_held((0, 1))
            self.assertEqual(len(self.net.on_way(0, 1)), 1)
        self.check_held()
        self.assertEqual(self.net.take(0, 1), (0, 5))

    def test_held_object(self):
        hold = self.net.held(0, 1)
        self.assertIsInstance(hold, Hold)
        self.assertIsNot(self.net.held(0, 1), hold)

    def test_hold_that_is_not_used(self):
        kept = [self.net.held(0, 1), self.net.held(0, 1), self.net.held(1, 2)]
        self.check_held()
        with self.net.held(0, 2):
            self.check_held((0, 2))
        self.check_held()
        self.assertEqual(len(kept), 3)

    def test_hold_that_is_used_later(self):
        hold = self.net.held(0, 1)
        self.net.take(0, 2)
        self.net.write(0, 0, 7)
        with hold:
            self.check_held((0, 1))
        self.check_held()

    def test_error_inside(self):
        error = KeyError("mine")
        with self.assertRaises(KeyError) as caught:
            with self.net.held(0, 1):
                self.check_held((0, 1))
                raise error
        self.assertIs(caught.exception, error)
        self.check_held()

    def test_error_of_the_net_inside(self):
        for wanted, line in ((HeldBack, (0, 1)), (NoLetter, (2, 0)), (NoLine, (0, 0))):
            with self.assertRaises(wanted):
                with self.net.held(0, 1):
                    self.net.take(*line)
            self.check_held()

    def test_error_that_is_caught_inside(self):
        with self.net.held(0, 1):
            with self.assertRaises(HeldBack):
                self.net.take(0, 1)
            self.check_held((0, 1))

    def test_left_by_return_and_break(self):
        def leave():
            with self.net.held(0, 1):
                return list(self.net.back)

        self.assertEqual(leave(), [(0, 1)])
        self.check_held()
        for _ in range(3):
            with self.net.held(1, 0):
                break
        self.check_held()

    def test_two_blocks_for_one_line(self):
        with self.net.held(0, 1):
            with self.net.held(0, 1):
                self.check_held((0, 1))
            self.check_held((0, 1))
        self.check_held()

    def test_two_blocks_of_which_the_inner_one_ends_by_an_error(self):
        with self.net.held(0, 1):
            with self.assertRaises(ValueError):
                with self.net.held(0, 1):
                    raise ValueError
            self.check_held((0, 1))
        self.check_held()

    def test_blocks_that_end_in_the_other_order(self):
        first, second = self.net.held(0, 1), self.net.held(0, 1)
        first.__enter__()
        second.__enter__()
        self.assertFalse(first.__exit__(None, None, None))
        self.check_held((0, 1))
        self.assertFalse(second.__exit__(None, None, None))
        self.check_held()

    def test_blocks_for_two_lines(self):
        with self.net.held(1, 2):
            with self.net.held(0, 2):
                self.check_held((0, 2), (1, 2))
            self.check_held((1, 2))
        self.check_held()
        with self.net.held(1, 0), self.net.held(0, 1), self.net.held(1, 0):
            self.check_held((0, 1), (1, 0))
        self.check_held()

    def test_other_direction_is_not_held(self):
        with self.net.held(0, 1):
            self.assertEqual(self.net.take(1, 0), (1, 6))
            self.assertEqual(self.net.take(0, 2), (0, 5))

    def test_letters_can_be_sent(self):
        with self.net.held(0, 1):
            self.assertEqual(self.net.write(0, 0, 9), [(0, 1), (0, 2)])
            self.assertEqual(self.net.on_way(0, 1), [b"01000000501", b"01000000902"])
        self.assertEqual([self.net.take(0, 1), self.net.take(0, 1)], [(0, 5), (0, 9)])

    def test_held_line_without_letters(self):
        with self.net.held(2, 0):
            self.check_held((2, 0))
        with self.assertRaises(NoLetter):
            self.net.take(2, 0)

    def test_queue_stays(self):
        before = shown(self.net, [[0, 1]] * 3)
        with self.net.held(0, 1), self.net.held(1, 2):
            pass
        self.assertEqual(shown(self.net, [[0, 1]] * 3), before)

    def test_all_lines(self):
        lines = [(a, b) for a in range(3) for b in range(3) if a != b]
        holds = [self.net.held(*line) for line in reversed(lines)]
        for hold in holds:
            hold.__enter__()
        self.check_held(*lines)
        self.assertEqual(self.net.settle(), [])
        for hold in holds:
            hold.__exit__(None, None, None)
        self.check_held()

    def test_many_holds_one_after_the_other(self):
        for _ in range(200):
            with self.net.held(0, 1):
                self.assertEqual(self.net.back, [(0, 1)])
        self.check_held()


class RandomRunsTest(NetCase):
    """Long runs with wrong and right calls, each compared with the model."""

    layouts = (
        TRIANGLE,
        SQUARE,
        [[0, 1], [0, 1]],
        [[0], [0], [], [0, 7]],
        [[0, 1, 2], [0, 3], [1, 3, 4], [4, 5, 0], [5, 0, 6]],
        [[0, 5], [0, 1], [1, 2], [2, 3], [3, 4], [4, 5]],
        [[0, 1]] * 6,
    )

    def step(self, chance, net, model):
        """Do one call that chance chooses on both, and return both outcomes."""
        copies = range(-1, len(model.rows) + 1) if chance.random() < 0.05 else range(len(model.rows))
        what = chance.random()
        if what < 0.45:
            copy = chance.choice(copies)
            keys = range(8) if chance.random() < 0.05 or not 0 <= copy < len(model.rows) else model.rows[copy]
            key = chance.choice(list(keys) or [0])
            value = chance.choice((-1, 1000000)) if chance.random() < 0.03 else chance.randrange(1000000)
            return [outcome(each.write, copy, key, value) for each in (net, model)]
        if what < 0.98:
            line = (chance.choice(copies), chance.choice(copies))
            if chance.random() < 0.8:
                filled = [line for line in model.lines if model.queues[line]]
                line = chance.choice(filled or [line])
            return [outcome(each.take, *line) for each in (net, model)]
        return [outcome(each.settle) for each in (net, model)]

    def run_one(self, seed, rows, counts, steps):
        chance = random.Random(seed)
        net, model = self.make(rows, counts), Model(rows, counts)
        held, holds = [], []
        for at in range(steps):
            if model.lines and chance.random() < 0.04 and not held:
                model.holds = held = chance.choices(model.lines, k=2)
                holds = [net.held(*line) for line in held]
                for hold in holds:
                    hold.__enter__()
            elif held and chance.random() < 0.2:
                holds.pop().__exit__(None, None, None)
                held.pop()
            mine, wanted = self.step(chance, net, model)
            self.assertEqual(mine, wanted, (seed, at))
            self.assertEqual(shown(net, rows), model.state(), (seed, at))
        self.compare_watch(net, model)

    def compare_watch(self, net, model):
        """A plain net has no watch to compare."""

    def test_short_runs(self):
        for seed in range(40):
            for at, rows in enumerate(self.layouts):
                counts = random.Random(seed).sample(ALL, (seed * 37 + at * 11) % 121)
                self.run_one(seed * 10 + at, rows, counts, 30)

    def test_long_runs(self):
        for seed, rows in enumerate(self.layouts):
            for counts in ((), ALL):
                self.run_one(1000 + seed, rows, counts, 150)


class LettersOfNetsTest(NetCase):
    def test_letters_of_a_net_unpack(self):
        layout = Layout([[0]] * 3)
        book = Book([(1, 0, 2)])
        net = self.kind(layout, book)
        net.write(0, 0, 3)
        letter = unpack(layout, book, net.on_way(0, 1)[0])
        self.assertIsInstance(letter, Letter)
        self.assertEqual(letter.counts, ((0, 1, 1), (0, 2, 1)))


if __name__ == "__main__":
    unittest.main()
