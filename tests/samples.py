"""Values that the tests share."""

PAIR = (("price", 1), ("tax", 1))
OTHER_PAIR = (("price", 1), ("tax", 2))
GRID = ((0, 0), (0, 1), (1, 0), (1, 1))
NEAR = (
    ((0, 0), (0, 1)), ((0, 0), (1, 0)), ((0, 1), (0, 0)), ((0, 1), (1, 1)),
    ((1, 0), (0, 0)), ((1, 0), (1, 1)), ((1, 1), (0, 1)), ((1, 1), (1, 0)),
)
PLACES = (
    ("ask", "price", (1, 2)), ("do", "low", 3), ("do", "high", 3),
    ("ask", "tax", (4, 5)), ("do", "old", 6), ("do", "new", 6), ("end",),
)


def deep_tuple(levels):
    thing = ()
    for level in range(levels):
        thing = (thing,)
    return thing


def deep_list(levels):
    thing = []
    for level in range(levels):
        thing = [thing]
    return thing


def deep_dict(levels):
    thing = {}
    for level in range(levels):
        thing = {"deep": thing}
    return thing


def any_kind():
    """Values of every kind; none of them is a setting, a standing, a place, a name or a tuple of such."""
    return [
        None, True, False, 0, 1, -1, 2, 10 ** 999, -10 ** 999,
        "", "A", "0", "price tax", "end", b"", b"price", bytearray(b"end"),
        [], [0, 0], ["end"], [["price", 1]], {}, {"price": 1}, {0: 0}, set(), {0, 1}, frozenset((0, 1)),
        ((),), (None,), (True,), (True, False), ("",), ("do",), ("end", "end"), ((0, 0), True),
        deep_tuple(50), deep_list(50), deep_dict(50),
        range(2), object(), int, len, ValueError(0), NotImplemented, Ellipsis, iter((0, 0)),
    ]


def without_tuples(things):
    return [thing for thing in things if not isinstance(thing, tuple)]
