"""The examples of the interface, as they stand in the document."""

import unittest

from partkeepers.errors import KeeperError

# One example for each block; the last line tells what the last row gives.
EXAMPLES = """
>>> from partkeepers.layouts import Layout
>>> layout = Layout([[1, 0], [1, 2], [0, 2]])
>>> [layout[0], layout.lines()]
[(0, 1), [(0, 1), (0, 2), (1, 0), (1, 2), (2, 0), (2, 1)]]

>>> from partkeepers.books import Book
>>> from partkeepers.layouts import Layout
>>> from partkeepers.nets import Net
>>> from partkeepers.plays import play
>>> layout = Layout([[1, 0], [1, 2], [0, 2]])
>>> net = Net(layout, Book.full(layout))
>>> play(net, [("write", 0, 0, 1), ("write", 0, 1, 2), ("take", 0, 1), ("write", 1, 2, 3)])
>>> net.take(1, 2)
raises TooEarly(sender=1, taker=2, lacking=((0, 1, 0),))

>>> from partkeepers.books import Book
>>> from partkeepers.layouts import Layout
>>> from partkeepers.nets import Net
>>> layout = Layout([[1, 0], [1, 2], [0, 2]])
>>> net = Net(layout, Book.full(layout))
>>> net.write(0, 1, 25)
>>> net.on_way(0, 1)
[b'011000025010000']

>>> from partkeepers.books import Book
>>> from partkeepers.layouts import Layout
>>> from partkeepers.watches import WatchedNet
>>> from partkeepers.plays import play
>>> layout = Layout([[1, 0], [1, 2], [0, 2]])
>>> net = WatchedNet(layout, Book())
>>> play(net, [("write", 0, 0, 1), ("write", 0, 1, 2), ("take", 0, 1), ("write", 1, 2, 3), ("take", 1, 2)])
>>> net.misses
[(2, 2, 0)]

>>> from partkeepers.chains import chain_run
>>> from partkeepers.layouts import Layout
>>> layout = Layout([[1, 0], [1, 2], [0, 2]])
>>> chain_run(layout, (0, 1, 2))
[('write', 0, 0, 1), ('write', 0, 1, 2), ('take', 0, 1), ('write', 1, 2, 3), ('take', 1, 2)]

>>> from partkeepers.books import Book
>>> from partkeepers.chains import erring_run
>>> from partkeepers.layouts import Layout
>>> layout = Layout([[1, 0], [1, 2], [0, 2]])
>>> book = Book.full(layout) - Book([(1, 0, 2)])
>>> [erring_run(layout, book, most=2), erring_run(layout, book)]
[None, [('write', 0, 0, 1), ('write', 0, 1, 2), ('take', 0, 1), ('write', 1, 2, 3), ('take', 1, 2)]]

>>> from partkeepers.costs import key_cost
>>> from partkeepers.layouts import Layout
>>> layout = Layout([[0, 3], [0, 1], [1, 2], [2, 3]])
>>> gained, lost = key_cost(layout, 2, 3)
>>> [list(gained), list(lost)]
[[(1, 0, 2), (1, 2, 0), (3, 0, 2), (3, 2, 0)], [(1, 0, 3), (3, 0, 1), (3, 1, 2)]]

>>> from partkeepers.books import Book
>>> from partkeepers.costs import table
>>> from partkeepers.layouts import Layout
>>> layout = Layout([[1, 0], [1, 2], [0, 2]])
>>> table(layout, Book.full(layout)).splitlines()
['copy keys     lines bytes', '   0 01           4    30', '   1 12           4    30', '   2 02           4    30', ' all 012         12    90']

>>> from partkeepers.books import Book
>>> from partkeepers.layouts import Layout
>>> from partkeepers.plays import trace
>>> layout = Layout([[1, 0], [1, 2], [0, 2]])
>>> steps = [("write", 0, 0, 1), ("write", 0, 1, 2), ("take", 0, 1), ("write", 1, 2, 3), ("take", 1, 2)]
>>> trace(layout, Book.full(layout), steps)
[[(0, 2)], [(0, 1), (0, 2)], [(0, 2)], [(0, 2)], [(0, 2)]]

>>> from partkeepers.books import Book
>>> from partkeepers.layouts import Layout
>>> from partkeepers.plays import shrink
>>> layout = Layout([[1, 0], [1, 2], [0, 2]])
>>> steps = [("write", 2, 0, 9), ("write", 0, 0, 1), ("write", 0, 1, 2), ("take", 0, 1), ("write", 1, 2, 3)]
>>> shrink(layout, Book(), steps + [("take", 1, 2), ("take", 2, 0)])
[('write', 0, 0, 1), ('write', 0, 1, 2), ('take', 0, 1), ('write', 1, 2, 3), ('take', 1, 2)]
"""


def shown(error):
    """Return the error in the form of the examples."""
    fields = ", ".join(f"{name}={value!r}" for name, value in vars(error).items())
    return f"raises {type(error).__name__}({fields})"


def given(rows):
    """Return what the last row of an example gives, and do the rows before it."""
    names = {}
    for row in rows[:-1]:
        exec(row, names)
    try:
        return repr(eval(rows[-1], names))
    except KeeperError as error:
        return shown(error)


class ExamplesTest(unittest.TestCase):
    def test_examples(self):
        blocks = EXAMPLES.strip().split("\n\n")
        for block in blocks:
            *rows, wanted = block.split("\n")
            with self.subTest(rows[-1]):
                self.assertTrue(all(row.startswith(">>> ") for row in rows))
                self.assertEqual(given([row[4:] for row in rows]), wanted)
        self.assertEqual(len(blocks), 10)


if __name__ == "__main__":
    unittest.main()
