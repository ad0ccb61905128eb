"""Tests of partkeepers.watches: points [15] and [16], and all tests of nets again with watched nets."""

import random
import unittest
from itertools import permutations

import test_nets
from model import Model, shown
from test_nets import ALL, FAR, SQUARE, TRIANGLE, outcome

from partkeepers.books import Book
from partkeepers.errors import KeeperError, NoWrite
from partkeepers.layouts import Layout
from partkeepers.nets import Net
from partkeepers.watches import WatchedNet


class Watched:
    kind = WatchedNet

    def compare_watch(self, net, model):
        """Check `led` of all writes and `misses` against the model."""
        many = len(model.writes)
        for first in range(many):
            for second in range(many):
                self.assertIs(net.led(first, second), model.leads(first, second), (first, second))
        for asked in (-1, many):
            self.assertEqual(outcome(net.led, asked, asked), ("NoWrite", {"asked": asked}, None))
        self.assertEqual(net.misses, model.misses)


class NewNetTest(Watched, test_nets.NewNetTest):
    pass


class WriteTest(Watched, test_nets.WriteTest):
    pass


class FullLineTest(Watched, test_nets.FullLineTest):
    pass


class NumbersTest(Watched, test_nets.NumbersTest):
    pass


class TakeTest(Watched, test_nets.TakeTest):
    pass


class AskingTest(Watched, test_nets.AskingTest):
    pass


class ReadyTest(Watched, test_nets.ReadyTest):
    pass


class SettleTest(Watched, test_nets.SettleTest):
    pass


class HeldTest(Watched, test_nets.HeldTest):
    pass


class RandomRunsTest(Watched, test_nets.RandomRunsTest):
    pass


class LettersOfNetsTest(Watched, test_nets.LettersOfNetsTest):
    pass


class LedTest(unittest.TestCase):
    def make(self, rows, counts=()):
        return WatchedNet(Layout(rows), Book(counts))

    def check_led(self, net, many, pairs):
        """Check that exactly these pairs of the writes are led."""
        found = [(v, w) for v in range(many) for w in range(many) if net.led(v, w)]
        self.assertEqual(found, sorted(pairs))
        with self.assertRaises(NoWrite):
            net.led(0, many)

    def test_stands_in_its_file(self):
        self.assertEqual(WatchedNet.__module__, "partkeepers.watches")
        self.assertTrue(issubclass(WatchedNet, Net))
        for name in ("write", "take", "led"):
            self.assertIn(name, vars(WatchedNet))
        self.assertIsInstance(vars(WatchedNet)["misses"], property)

    def test_no_writes_at_first(self):
        net = self.make(TRIANGLE)
        self.assertEqual(net.misses, [])
        with self.assertRaises(NoWrite) as caught:
            net.led(0, 0)
        self.assertEqual(caught.exception.asked, 0)

    def test_by_making(self):
        net = self.make([[0, 1], [0]])
        net.write(0, 0, 1)
        net.write(0, 1, 1)
        net.write(1, 0, 1)
        net.write(0, 1, 1)
        self.check_led(net, 4, [(0, 1), (0, 3), (1, 3)])
        self.assertIs(net.led(0, 1), True)
        self.assertIs(net.led(1, 0), False)

    def test_not_to_itself(self):
        net = self.make(TRIANGLE)
        for _ in range(3):
            net.write(0, 0, 1)
        net.settle()
        net.write(2, 2, 1)
        self.assertEqual([net.led(write, write) for write in range(4)], [False] * 4)
        self.check_led(net, 4, [(0, 1), (0, 2), (0, 3), (1, 2), (1, 3), (2, 3)])

    def test_by_taking(self):
        net = self.make([[0], [0, 1]])
        net.write(0, 0, 1)
        net.write(1, 1, 1)
        net.take(0, 1)
        net.write(1, 1, 1)
        self.check_led(net, 3, [(0, 2), (1, 2)])

    def test_a_taking_after_the_write_does_not_count(self):
        net = self.make([[0], [0]])
        net.write(0, 0, 1)
        net.write(1, 0, 1)
        net.settle()
        self.check_led(net, 2, [])

    def test_a_letter_on_the_way_does_not_count(self):
        net = self.make([[0], [0]])
        net.write(0, 0, 1)
        net.write(0, 0, 1)
        net.take(0, 1)
        net.write(1, 0, 1)
        self.check_led(net, 3, [(0, 1), (0, 2)])

    def test_by_handing_on(self):
        rows = [[0], [0, 1], [1, 2], [2, 3], [3]]
        net = self.make(rows)
        for copy in range(4):
            net.write(copy, copy, 1)
            net.take(copy, copy + 1)
        net.write(4, 3, 1)
        self.check_led(net, 5, [(v, w) for v in range(5) for w in range(v + 1, 5)])

    def test_handing_on_brings_what_was_before_alone(self):
        net = self.make([[0], [0, 1], [1]])
        net.write(0, 0, 1)
        net.write(1, 1, 1)
        net.take(0, 1)
        net.take(1, 2)
        net.write(2, 1, 1)
        # Copy 1 took the letter of write 0 only after it had made write 1.
        self.check_led(net, 3, [(1, 2)])

    def test_two_ways_that_meet(self):
        net = self.make([[0, 1], [0, 2], [1, 3], [2, 3]])
        net.write(0, 0, 1)
        net.write(0, 1, 1)
        net.take(0, 1)
        net.take(0, 2)
        net.write(1, 2, 1)
        net.write(2, 3, 1)
        net.take(1, 3)
        net.write(3, 2, 1)
        net.take(2, 3)
        net.write(3, 3, 1)
        self.check_led(net, 6, [(0, 1), (0, 2), (0, 3), (0, 4), (0, 5), (1, 3), (1, 5), (2, 4), (2, 5), (3, 5), (4, 5)])

    def test_what_is_known_stays_known(self):
        # Copy 3 learns of two writes of copy 0 by one way, then of the first one by another way.
        net = self.make([[0, 1], [0, 2], [1, 3], [2, 3]])
        net.write(0, 0, 1)
        net.take(0, 1)
        net.write(1, 2, 1)
        net.write(0, 1, 1)
        net.take(0, 2)
        net.write(2, 3, 1)
        net.take(2, 3)
        net.take(1, 3)
        net.write(3, 3, 1)
        self.check_led(net, 5, [(0, 1), (0, 2), (0, 3), (0, 4), (1, 4), (2, 3), (2, 4), (3, 4)])

    def test_counts_do_not_matter(self):
        for counts in ((), ALL):
            net = self.make(TRIANGLE, counts)
            net.write(0, 0, 1)
            net.write(0, 1, 1)
            net.take(0, 1)
            net.write(1, 2, 1)
            self.check_led(net, 3, [(0, 1), (0, 2), (1, 2)])

    def test_refused_writes_get_no_number(self):
        net = self.make([[0], [0], [1]])
        net.write(0, 0, 1)
        for copy, key, value in ((0, 1, 1), (3, 0, 1), (0, 0, -1), (0, 0, 1000000)):
            with self.assertRaises(KeeperError):
                net.write(copy, key, value)
            with self.assertRaises(KeeperError):
                net[copy, key] = value
        net.write(0, 0, 2)
        net.write(2, 1, 3)
        self.check_led(net, 3, [(0, 1)])

    def test_writes_on_a_full_line_get_no_number(self):
        net = self.make([[0], [0]])
        for _ in range(99):
            net.write(0, 0, 1)
        with self.assertRaises(KeeperError):
            net.write(0, 0, 1)
        with self.assertRaises(NoWrite):
            net.led(98, 99)
        net.settle()
        net.write(1, 0, 1)
        self.assertIs(net.led(98, 99), True)
        self.assertEqual(net.misses, [])

    def test_no_write(self):
        net = self.make(TRIANGLE)
        net.write(0, 0, 1)
        net.write(0, 1, 1)
        for first, second, asked in (
            (-1, 0, -1),
            (0, -1, -1),
            (2, 1, 2),
            (1, 2, 2),
            (2, 3, 2),
            (3, 2, 3),
            (-1, 2, -1),
            (2, -1, 2),
            (-2, -2, -2),
            *[(far, 0, far) for far in FAR],
            *[(1, far, far) for far in FAR],
        ):
            with self.subTest((first, second)), self.assertRaises(NoWrite) as caught:
                net.led(first, second)
            self.assertEqual(caught.exception.asked, asked)
        self.check_led(net, 2, [(0, 1)])


class MissesTest(unittest.TestCase):
    def make(self, rows, counts=()):
        return WatchedNet(Layout(rows), Book(counts))

    def test_example(self):
        net = self.make(TRIANGLE)
        net.write(0, 0, 1)
        net.write(0, 1, 2)
        net.take(0, 1)
        net.write(1, 2, 3)
        self.assertEqual(net.misses, [])
        net.take(1, 2)
        self.assertEqual(net.misses, [(2, 2, 0)])

    def test_item_assignment_and_settling(self):
        net = self.make(TRIANGLE)
        net[0, 0] = 1
        net[0, 1] = 2
        with net.held(0, 2):
            self.assertEqual(net.settle(), [(0, 1)])
            net[1, 2] = 3
            self.assertEqual(net.settle(), [(1, 2)])
        self.assertEqual(net.misses, [(2, 2, 0)])
        self.assertIs(net.led(0, 2), True)
        net.settle()
        self.assertEqual(net.misses, [(2, 2, 0)])
        self.assertEqual([net.waiting, net.back], [0, []])

    def test_nothing_is_missed_in_time(self):
        net = self.make(TRIANGLE)
        net.write(0, 0, 1)
        net.write(0, 1, 2)
        net.take(0, 1)
        net.write(1, 2, 3)
        net.take(0, 2)
        net.take(1, 2)
        self.assertEqual(net.misses, [])

    def test_writes_that_do_not_lead_are_not_missed(self):
        net = self.make([[0], [0], [0]])
        net.write(0, 0, 1)
        net.write(1, 0, 2)
        net.take(1, 2)
        net.take(0, 2)
        self.assertEqual(net.misses, [])

    def test_keys_that_the_taker_does_not_keep_are_not_missed(self):
        net = self.make([[0, 1], [0, 1, 2], [2, 0]])
        net.write(0, 1, 1)
        net.take(0, 1)
        net.write(1, 2, 3)
        net.take(1, 2)
        self.assertEqual(net.misses, [])

    def test_own_writes_are_not_missed(self):
        net = self.make([[0], [0]])
        net.write(0, 0, 1)
        net.take(0, 1)
        net.write(1, 0, 2)
        net.take(1, 0)
        self.assertEqual(net.misses, [])

    def test_own_writes_that_are_on_the_way_elsewhere_are_not_missed(self):
        net = self.make([[0, 1], [0, 2], [0, 1, 2]])
        net.write(0, 0, 1)
        net.take(0, 1)
        net.write(1, 2, 2)
        net.take(1, 2)
        self.assertEqual(net.misses, [(2, 1, 0)])
        net.write(1, 0, 3)
        net.take(1, 0)
        self.assertEqual(net.misses, [(2, 1, 0)])

    def test_earlier_writes_of_the_maker(self):
        # Those to the taker came on the same line before; the others are not for the taker.
        net = self.make([[0, 1], [0], [1]])
        net.write(0, 0, 1)
        net.write(0, 1, 2)
        net.write(0, 0, 3)
        net.take(0, 1)
        net.take(0, 2)
        net.take(0, 1)
        self.assertEqual(net.misses, [])

    def test_all_missed_writes_ascending(self):
        net = self.make([[0, 1], [0, 1], [0, 2], [0, 1, 2]])
        net.write(1, 0, 1)
        net.write(0, 1, 2)
        net.write(0, 0, 3)
        net.write(1, 0, 4)
        net.take(1, 2)
        net.take(0, 2)
        net.take(1, 2)
        self.assertEqual(net.misses, [])
        net.write(2, 2, 5)
        net.take(2, 3)
        # Writes of two copies are missed, in the order of their numbers; write 4 is the one taken.
        self.assertEqual(net.misses, [(3, 4, 0), (3, 4, 1), (3, 4, 2), (3, 4, 3)])

    def test_in_the_order_of_the_takings(self):
        net = self.make([[0], [0, 1], [0, 1, 2], [2, 0]])
        net.write(0, 0, 1)
        net.take(0, 1)
        net.write(1, 1, 2)
        net.write(1, 1, 3)
        net.take(1, 2)
        net.write(2, 2, 4)
        net.take(2, 3)
        net.take(1, 2)
        self.assertEqual(net.misses, [(2, 1, 0), (3, 3, 0), (2, 2, 0)])

    def test_missed_again_until_it_is_taken(self):
        net = self.make([[0], [0, 1], [0, 1]])
        net.write(0, 0, 1)
        net.take(0, 1)
        for value in (2, 3, 4):
            net.write(1, 1, value)
        net.take(1, 2)
        net.take(1, 2)
        net.take(0, 2)
        net.take(1, 2)
        self.assertEqual(net.misses, [(2, 1, 0), (2, 2, 0)])

    def test_what_an_early_taking_brought(self):
        # Copy 2 has not taken the letter of write 0, but it leads to the copy's next write.
        net = self.make([[0], [0, 1], [0, 1]])
        net.write(0, 0, 1)
        net.take(0, 1)
        net.write(1, 1, 2)
        net.take(1, 2)
        net.write(2, 1, 3)
        self.assertIs(net.led(0, 2), True)
        net.take(2, 1)
        self.assertEqual(net.misses, [(2, 1, 0)])

    def test_refused_takings_tell_nothing(self):
        layout = Layout(TRIANGLE)
        net = WatchedNet(layout, Book.full(layout))
        net.write(0, 0, 1)
        net.write(0, 1, 2)
        net.take(0, 1)
        net.write(1, 2, 3)
        for line in ((1, 2), (2, 1), (0, 0), (5, 0)):
            for _ in range(2):
                with self.assertRaises(KeeperError):
                    net.take(*line)
        with net.held(0, 2), self.assertRaises(KeeperError):
            net.take(0, 2)
        net.write(2, 2, 4)
        self.assertEqual([net.led(write, 3) for write in range(3)], [False] * 3)
        net.take(0, 2)
        net.take(1, 2)
        self.assertEqual(net.misses, [])

    def test_full_book_never_misses(self):
        for rows in (TRIANGLE, SQUARE, [[0]] * 4, [[0, 1, 2], [0, 3], [1, 3, 4], [4, 5, 0], [5, 0, 6]]):
            for seed in range(10):
                net = self.run_by_chance(rows, ALL, random.Random(seed))
                self.assertEqual(net.misses, [])

    def run_by_chance(self, rows, counts, chance):
        """Return a watched net after a run that is as good with each plain net."""
        layout = Layout(rows)
        net, plain = WatchedNet(layout, Book(counts)), Net(layout, Book(counts))
        for _ in range(80):
            copy = chance.randrange(len(rows))
            if chance.random() < 0.5:
                step = ("write", copy, chance.choice(rows[copy]), chance.randrange(100))
            else:
                step = ("take", *chance.choice(layout.lines()))
            told = [outcome(getattr(each, step[0]), *step[1:]) for each in (net, plain)]
            self.assertEqual(told[0], told[1])
            self.assertEqual(shown(net, rows), shown(plain, rows))
        return net

    def test_allows_what_a_plain_net_allows(self):
        missed = 0
        for rows in (TRIANGLE, SQUARE, [[0]] * 4, [[0, 1], [1, 2], [0, 2], [2, 1]]):
            for counts in ((), ALL[::2], ALL[::5]):
                missed += len(self.run_by_chance(rows, counts, random.Random(3)).misses)
        self.assertGreater(missed, 20)

    def test_returned_lists_are_new(self):
        net = self.make(TRIANGLE)
        net.write(0, 0, 1)
        net.write(0, 1, 2)
        net.take(0, 1)
        net.write(1, 2, 3).clear()
        net.take(1, 2)
        net.misses.clear()
        net.misses.append((0, 0, 0))
        self.assertEqual(net.misses, [(2, 2, 0)])
        self.assertIsInstance(net.misses, list)
        self.assertEqual([type(miss) for miss in net.misses], [tuple])

    def test_two_watched_nets_share_nothing(self):
        layout, book = Layout(TRIANGLE), Book()
        first, second = WatchedNet(layout, book), WatchedNet(layout, book)
        first.write(0, 0, 1)
        first.write(0, 1, 2)
        first.take(0, 1)
        first.write(1, 2, 3)
        first.take(1, 2)
        self.assertEqual(second.misses, [])
        with self.assertRaises(NoWrite):
            second.led(0, 0)
        second.write(2, 2, 1)
        second.take(2, 1)
        self.assertEqual([first.led(0, 2), second.misses, first.misses], [True, [], [(2, 2, 0)]])

    def test_book_changes_afterwards(self):
        layout = Layout(TRIANGLE)
        book = Book.full(layout)
        net = WatchedNet(layout, book)
        book -= Book(list(permutations(range(3))))
        net.write(0, 0, 1)
        net.write(0, 1, 2)
        net.take(0, 1)
        net.write(1, 2, 3)
        with self.assertRaises(KeeperError):
            net.take(1, 2)
        self.assertEqual(net.misses, [])

    def test_misses_against_the_model(self):
        many = 0
        for seed in range(30):
            chance = random.Random(seed)
            rows = chance.choice((TRIANGLE, [[0]] * 4, [[0, 1], [1, 2], [0, 2], [2, 1]], [[0, 1], [0], [0, 1], [1]]))
            net, model = self.make(rows), Model(rows, ())
            for _ in range(60):
                copy = chance.randrange(len(rows))
                if chance.random() < 0.4:
                    call = ("write", copy, chance.choice(rows[copy]), 7)
                else:
                    call = ("take", *chance.choice(model.lines))
                told = [outcome(getattr(each, call[0]), *call[1:]) for each in (net, model)]
                self.assertEqual(told[0], told[1])
                self.assertEqual(net.misses, model.misses)
            many += len(model.misses)
        self.assertGreater(many, 100)


if __name__ == "__main__":
    unittest.main()
