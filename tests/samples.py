"""Values and checks that the tests share."""

import unittest

from midswitch.books import Book
from midswitch.requests import Request

PAIR = (("price", 1), ("tax", 1))
OTHER_PAIR = (("price", 1), ("tax", 2))
GRID = ((0, 0), (0, 1), (1, 0), (1, 1))
NEAR = (
    ((0, 0), (0, 1)), ((0, 0), (1, 0)), ((0, 1), (0, 0)), ((0, 1), (1, 1)),
    ((1, 0), (0, 0)), ((1, 0), (1, 1)), ((1, 1), (0, 1)), ((1, 1), (1, 0)),
)
PLACES = (
    ("ask", "price", (1, 2)), ("do", "low", 3), ("do", "high", 3),
    ("ask", "tax", (4, 5)), ("do", "old", 6), ("do", "new", 6), ("end",),
)
SWITCH = (("a", 1),)
TWICE = (
    ("ask", "a", (1, 2)), ("do", "x", 3), ("do", "y", 3),
    ("ask", "a", (4, 5)), ("do", "u", 6), ("do", "v", 6), ("end",),
)
GO = ("go",)


def to(*standing):
    return ("to", standing)


def go(many):
    return (GO,) * many


class Checks(unittest.TestCase):

    def refused(self, error, field, value, function, *args, **more):
        with self.assertRaises(error) as caught:
            function(*args, **more)
        self.assertEqual(getattr(caught.exception, field), value, (args, more))
        self.assertIs(type(getattr(caught.exception, field)), type(value))


def deep_tuple(levels):
    thing = ()
    for level in range(levels):
        thing = (thing,)
    return thing


def deep_list(levels):
    thing = []
    for level in range(levels):
        thing = [thing]
    return thing


def deep_dict(levels):
    thing = {}
    for level in range(levels):
        thing = {"deep": thing}
    return thing


def any_kind():
    """Values of every kind; none of them is a setting, a standing, a place, a name or a tuple of such."""
    return [
        None, True, False, 0, 1, -1, 2, 10 ** 999, -10 ** 999,
        "", "A", "0", "price tax", "end", b"", b"price", bytearray(b"end"),
        [], [0, 0], ["end"], [["price", 1]], {}, {"price": 1}, {0: 0}, set(), {0, 1}, frozenset((0, 1)),
        ((),), (None,), (True,), (True, False), ("",), ("do",), ("end", "end"), ((0, 0), True),
        deep_tuple(50), deep_list(50), deep_dict(50),
        range(2), object(), int, len, ValueError(0), NotImplemented, Ellipsis, iter((0, 0)),
    ]


def without_tuples(things):
    return [thing for thing in things if not isinstance(thing, tuple)]


def many_nodes():
    """A book and a request with many thousand nodes: each standing may have been lived through or not."""
    settings = (("a", 2), ("b", 1), ("c", 1))
    return Book(settings), Request.straight(settings, "x")


def book_without(settings, starts, switches):
    """A book with all near switches but these."""
    return Book(settings, starts=starts, switches=tuple([pair for pair in Book(settings).switches
                                                         if pair not in switches]))


def six_hundred_nodes():
    settings = (("a", 1), ("b", 1), ("c", 1))
    return (book_without(settings, ((0, 0, 0), (1, 0, 1), (1, 1, 0)),
                         (((0, 0, 1), (0, 0, 0)), ((1, 1, 1), (1, 0, 1)))), Request.straight(settings))


def one_node_too_many():
    settings = (("a", 2), ("b", 2))
    return (book_without(settings, ((2, 0), (2, 1)), (((0, 1), (0, 0)), ((2, 2), (1, 2)))),
            Request.straight(settings))


def many_torn_nodes():
    """A book and a request with more than 600 nodes, of which a run is torn."""
    settings = (("a", 2), ("b", 1), ("c", 1))
    places = tuple([("ask", "b", place[2]) if place[0] == "ask" else place for place in TWICE])
    return Book(settings), Request(settings, places)


def many_met_nodes():
    """A book and a request that has more than 600 nodes with some modes alone; it is never torn."""
    settings = (("a", 1), ("b", 2))
    places = (("ask", "a", (1, 1)), ("ask", "b", (2, 2, 2)), ("do", "x", 3), ("end",))
    return Book(settings), Request(settings, places)
