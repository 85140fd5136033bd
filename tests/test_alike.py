"""midswitch/alike.py: rows that can be done, and requests compared, points [14] and [15]; run_to, held against can_do."""

import itertools
import random
import unittest

import oracle
from midswitch import alike
from midswitch.alike import can_do, first_unlike, is_within, ways_to_pairs
from midswitch.books import Book
from midswitch.errors import TooMany
from midswitch.requests import MODES, Request
from midswitch.runs import is_whole, row_of
from midswitch.spots import Spots
from midswitch.verdicts import run_to
from samples import PAIR, PLACES, SWITCH, TWICE, Checks, any_kind, many_nodes, without_tuples

NEAR = Book(PAIR)
PRICE_FIRST = Book(PAIR, starts=((0, 0),), switches=(((0, 0), (1, 0)), ((1, 0), (1, 1))))
BUY = Request(PAIR, PLACES)
BOOK = Book(SWITCH)
NOBODY = Book(SWITCH, starts=())
LIVE = Request(SWITCH, TWICE)
LOOP = Request(SWITCH, (("do", "x", 1), ("ask", "a", (0, 2)), ("end",)))
FOREVER = Request(SWITCH, (("do", "x", 0),))
END = Request(SWITCH, (("end",),))


def straight(*names):
    return Request.straight(SWITCH, *names)


def short_rows(names, most):
    return [row for many in range(most + 1) for row in itertools.product(names, repeat=many)]


class CanDoTest(Checks):

    def test_rows(self):
        for row in (("low", "old"), ("high", "old"), ("high", "new"), ("low", "new")):
            self.assertIs(can_do(PRICE_FIRST, BUY, row), True)
        for row in ((), ("low",), ("old", "low"), ("low", "old", "old"), ("low", "other"), ("abcdefgh",) * 5):
            self.assertIs(can_do(PRICE_FIRST, BUY, row), False)
        kept = BUY.keeping(tax="begin")
        self.assertEqual([can_do(PRICE_FIRST, kept, (price, tax)) for price in ("low", "high")
                          for tax in ("old", "new")], [True, False, True, False])

    def test_the_empty_row(self):
        self.assertIs(can_do(BOOK, END, ()), True)
        self.assertIs(can_do(NOBODY, END, ()), False)
        self.assertIs(can_do(BOOK, LIVE, ()), False)
        asks = Request(SWITCH, (("ask", "a", (1, 2)), ("do", "x", 2), ("end",)))
        self.assertIs(can_do(BOOK, asks, ()), True)
        self.assertIs(can_do(BOOK.starting((0,)), asks, ()), True)
        self.assertIs(can_do(Book(SWITCH, starts=((0,),), switches=()), asks, ()), False)

    def test_a_row_on_the_way_is_not_enough(self):
        self.assertIs(can_do(BOOK, FOREVER, ("x",)), False)
        self.assertIs(can_do(BOOK, FOREVER, ()), False)
        self.assertIs(can_do(BOOK, LIVE, ("x",)), False)

    def test_long_rows(self):
        for many in (1, 2, 17, 5000):
            self.assertIs(can_do(BOOK, LOOP, ("x",) * many), True)
            self.assertIs(can_do(BOOK, LOOP, ("x",) * many + ("y",)), False)
        self.assertIs(can_do(Book(SWITCH, switches=()), LOOP, ("x",) * 2), False)

    def test_any_value(self):
        for thing in without_tuples(any_kind()) + ["x", ["x", "u"], {"x": 1}, LIVE, BOOK]:
            self.assertIs(can_do(BOOK, LIVE, thing), False)
        for item in any_kind() + ["X", "abcdefghi", b"x", ("x",), ["x"], ""]:
            for row in ((item,), ("x", item), (item, "u"), ("x", "u", item)):
                self.assertIs(can_do(BOOK, LIVE, row), False)

    def test_more_than_600_nodes_are_no_matter(self):
        book, request = many_nodes()
        self.assertIs(can_do(book, request, ("x",)), True)
        self.assertIs(can_do(book, request, ()), False)

    def test_a_slow_search_and_run_to(self):
        some = 0
        for book, request in oracle.random_cases(250, 101):
            for row in short_rows("wxy", 2) + [("x", "y", "x"), ("w", "w", "w", "w")]:
                told = can_do(book, request, row)
                self.assertIs(told, oracle.fewest_to_row(book, request, row) is not None)
                run = run_to(book, request, row)
                self.assertIs(run is not None, told)
                if told:
                    self.assertIs(is_whole(book, request, run), True)
                    self.assertEqual(row_of(book, request, run), row)
                    some += 1
        self.assertGreater(some, 100)


class FirstUnlikeTest(Checks):

    def unlike(self, expected, book, one, other):
        self.assertEqual(first_unlike(book, one, other), expected)
        if expected is None:
            self.assertIsNone(first_unlike(book, other, one))
        else:
            who, row = expected
            self.assertEqual(first_unlike(book, other, one), (1 - who, row))
            self.assertIs(can_do(book, (one, other)[who], row), True)
            self.assertIs(can_do(book, (one, other)[1 - who], row), False)

    def test_the_documents_example(self):
        self.unlike((0, ("high", "new")), PRICE_FIRST, BUY, BUY.keeping(tax="begin"))

    def test_the_same(self):
        for request in (LIVE, LOOP, FOREVER, END):
            for book in (BOOK, NOBODY, Book(SWITCH, switches=())):
                self.unlike(None, book, request, request)
        self.unlike(None, NEAR, BUY, BUY.keeping(tax="begin", price="met"))
        self.unlike(None, Book(PAIR, switches=()), BUY, BUY.keeping(tax="begin", price="begin"))
        twice_as_long = Request(SWITCH, (("ask", "a", (1, 1)), ("do", "x", 2), ("ask", "a", (3, 4)),
                                         ("end",), ("end",)))
        self.unlike(None, BOOK, straight("x"), twice_as_long)

    def test_the_shortest_row(self):
        self.unlike((0, ("z",)), BOOK, straight("z"), straight("a", "a"))
        self.unlike((1, ("a",)), BOOK, straight("z", "z"), straight("a"))
        self.unlike((0, ("x", "x")), BOOK, LOOP, straight("x"))
        self.unlike((0, ("x",)), BOOK, LOOP, straight("x", "x"))

    def test_the_least_of_the_shortest(self):
        fork = Request(SWITCH, (("ask", "a", (1, 2)), ("do", "b", 3), ("do", "d", 3), ("end",)))
        self.unlike((0, ("b",)), BOOK, fork, straight("c"))
        self.unlike((1, ("a",)), BOOK, fork, straight("a"))
        self.unlike((0, ("d",)), BOOK, fork, straight("b"))
        self.unlike((0, ("b",)), BOOK, fork, straight("d"))
        first = Request(SWITCH, (("do", "b", 1), ("ask", "a", (2, 3)), ("do", "z", 4), ("do", "y", 4), ("end",)))
        second = Request(SWITCH, (("do", "c", 1), ("ask", "a", (2, 3)), ("do", "a", 4), ("do", "b", 4), ("end",)))
        self.unlike((0, ("b", "y")), BOOK, first, second)
        self.unlike((0, ("ab",)), BOOK, straight("ab"), straight("b"))
        self.unlike((1, ("a",)), BOOK, straight("ab"), straight("a"))

    def test_the_empty_row(self):
        for other in (straight("a"), FOREVER, LIVE, LOOP):
            self.unlike((0, ()), BOOK, END, other)
            self.unlike(None, NOBODY, END, other)

    def test_one_that_never_ends(self):
        self.unlike(None, BOOK, FOREVER, Request(SWITCH, (("ask", "a", (0, 0)),)))
        self.unlike(None, BOOK, FOREVER, Request(SWITCH, (("do", "y", 1), ("do", "z", 0))))
        self.unlike((1, ("x",)), BOOK, FOREVER, LOOP)
        still = Book(SWITCH, starts=((0,),), switches=())
        self.unlike(None, still, FOREVER, LOOP)
        self.unlike((1, ("x", "u")), still, FOREVER, LIVE)

    def test_modes(self):
        self.unlike((0, ("x", "v")), BOOK, LIVE, LIVE.keeping(a="met"))
        self.unlike((0, ("x", "v")), BOOK, LIVE, LIVE.keeping(a="begin"))
        self.unlike(None, BOOK, LIVE.keeping(a="met"), LIVE.keeping(a="begin"))
        self.unlike((0, ("y", "v")), BOOK.starting((0,)), LIVE.keeping(a="met"), LIVE.keeping(a="begin"))

    def test_random_requests(self):
        rng = random.Random(102)
        told = {}
        for book, request in list(oracle.random_cases(400, 103)):
            other = request.with_modes(tuple([rng.choice(MODES) for name in book.settings]))
            if rng.random() < 0.5:
                other = oracle.random_request(rng, book.settings, rng.randint(2, 9))
            pairs = oracle.row_pairs(book, request, other)
            expected = oracle.first_unlike(pairs)
            self.unlike(expected, book, request, other)
            within = all([ends[1] or not ends[0] for row, ends in pairs.values()])
            self.assertIs(is_within(book, request, other), within)
            key = (expected and (expected[0], len(expected[1])), within)
            told[key] = told.get(key, 0) + 1
        for key in ((None, True), ((0, 1), False), ((1, 1), True), ((1, 1), False), ((0, 2), False), ((1, 2), True)):
            self.assertGreater(told.get(key, 0), 0, told)

    def test_books_of_many_standings(self):
        rng = random.Random(109)
        for book, request in oracle.wide_cases(40, 110):
            other = request.with_modes(tuple([rng.choice(MODES) for name in book.settings]))
            self.unlike(oracle.first_unlike(oracle.row_pairs(book, request, other)), book, request, other)

    def test_requests_that_ask_twice(self):
        for rng, book, requests in oracle.asking_cases(150, 104):
            one, other = requests[0], requests[0].with_modes((rng.choice(MODES), rng.choice(MODES)))
            self.unlike(oracle.first_unlike(oracle.row_pairs(book, one, other)), book, one, other)


class IsWithinTest(Checks):

    def test_both_ways(self):
        fork = Request(SWITCH, (("ask", "a", (1, 2)), ("do", "b", 3), ("do", "d", 3), ("end",)))
        for one, other, told, back in (
                (straight("b"), fork, True, False), (straight("c"), fork, False, False), (fork, fork, True, True),
                (LIVE.keeping(a="met"), LIVE, True, False), (straight("x", "x"), LOOP, True, False),
                (FOREVER, LOOP, True, False), (FOREVER, END, True, False), (END, straight("a"), False, False)):
            self.assertIs(is_within(BOOK, one, other), told)
            self.assertIs(is_within(BOOK, other, one), back)

    def test_without_starts(self):
        for one, other in itertools.product((LIVE, LOOP, FOREVER, END), repeat=2):
            self.assertIs(is_within(NOBODY, one, other), True)

    def test_the_documents_example(self):
        kept = BUY.keeping(tax="begin")
        self.assertIs(is_within(PRICE_FIRST, kept, BUY), True)
        self.assertIs(is_within(PRICE_FIRST, BUY, kept), False)

    def test_each_is_within_the_other_exactly_if_nothing_is_unlike(self):
        rng = random.Random(105)
        for book, request in oracle.random_cases(200, 106):
            other = oracle.random_request(rng, book.settings, rng.randint(2, 7))
            both = is_within(book, request, other) and is_within(book, other, request)
            self.assertIs(first_unlike(book, request, other) is None, both)


def loops():
    """A book and a request that does one deed for ever, in loops of 5, 9 and 13: there are 585 sets of situations."""
    settings = (("a", 2),)
    chain = [("do", "x", at + 1) for at in range(5)] + [("ask", "a", (0, 6, 6))]
    chain += [("do", "x", at + 1) for at in range(6, 10)] + [("ask", "a", (0, 0, 11))]
    chain += [("do", "x", at + 1) for at in range(11, 14)] + [("do", "x", 0)]
    return Book(settings, switches=()), Request(settings, tuple(chain))


class TooManyTest(Checks):

    def test_just_600_pairs(self):
        book, one = loops()
        for many in range(1, 15):
            other = Request.straight(book.settings, *("x",) * many)
            self.assertEqual(first_unlike(book, one, other), (1, ("x",) * many))
            self.assertEqual(first_unlike(book, other, one), (0, ("x",) * many))
            self.assertIs(is_within(book, one, other), True)
            self.assertIs(is_within(book, other, one), False)
        self.assertEqual(len(oracle.row_pairs(book, one, other)), 600)

    def test_more(self):
        book, one = loops()
        other = Request.straight(book.settings, *("x",) * 15)
        self.assertEqual(len(oracle.row_pairs(book, one, other)), 601)
        # The row of fifteen deeds, which the other one can do alone, is found with the 16th of them.
        for first, second in ((one, other), (other, one)):
            self.refused(TooMany, "most", 600, first_unlike, book, first, second)
            self.refused(TooMany, "most", 600, is_within, book, first, second)
        self.assertIsNone(first_unlike(book, one, one))
        self.assertIsNone(first_unlike(book.starting(), one, other))

    def test_all_pairs_are_counted(self):
        rng = random.Random(107)
        groups = set()
        for book, request in oracle.random_cases(250, 108):
            other = oracle.random_request(rng, book.settings, rng.randint(2, 7))
            pairs = oracle.row_pairs(book, request, other)
            if book.starts:
                self.assertEqual(len(ways_to_pairs(Spots(book, request), Spots(book, other))), len(pairs))
            groups.add((len(book), len(book.groups[1])))
        self.assertGreater(len(groups), 5)

    def test_loops_of_many_lengths(self):
        settings = (("a", 3),)
        book = Book(settings, switches=())

        def loops_of(nexts, behind):
            return Request(settings, (("ask", "a", nexts), *[("do", "w", place) for place in behind]))
        one = loops_of((1, 4, 8, 1), (2, 3, 1, 5, 6, 7, 4, 9, 10, 11, 12, 13, 14, 8))
        other = loops_of((1, 3, 8, 1), (2, 1, 4, 5, 6, 7, 3, 9, 10, 11, 12, 13, 14, 15, 8))
        for first, second in ((one, other), (other, one)):
            self.refused(TooMany, "most", 600, first_unlike, book, first, second)
            self.refused(TooMany, "most", 600, is_within, book, first, second)
            self.assertIs(can_do(book, first, ("w",) * 1000), False)
        # Loops of 3, 4 and 7 deeds: as many pairs as steps until all of them begin anew at once, and the first one.
        self.assertIsNone(first_unlike(book, one, one))
        self.assertEqual(len(oracle.row_pairs(book, one, one)), 85)

    def test_rows_of_neither_are_not_counted(self):
        book, one = loops()
        self.assertEqual(first_unlike(book, one, Request.straight(book.settings, *"abcdefghijklmn")),
                         (1, tuple("abcdefghijklmn")))
        self.refused(TooMany, "most", 600, first_unlike, book, one, Request.straight(book.settings, *"abcdefghijklmno"))

    def test_a_book_of_twelve_standings(self):
        settings = (("a", 3), ("b", 2))
        places = (("ask", "a", (1, 2, 1, 2)), ("do", "x", 3), ("do", "y", 3), ("ask", "b", (4, 5, 4)),
                  ("do", "x", 0), ("do", "y", 6), ("end",))
        met = Request(settings, places, ("met", "met"))
        self.assertEqual(first_unlike(Book(settings), Request(settings, places), met), (0, ("x", "x", "x", "y")))
        self.assertIs(is_within(Book(settings), met, Request(settings, places)), True)


class ConventionsTest(Checks):

    def test_names_of_parameters(self):
        self.assertIs(can_do(row=("low", "new"), request=BUY, book=PRICE_FIRST), True)
        kept = BUY.keeping(tax="begin")
        self.assertEqual(first_unlike(other=kept, one=BUY, book=PRICE_FIRST), (0, ("high", "new")))
        self.assertIs(is_within(other=kept, one=BUY, book=PRICE_FIRST), False)

    def test_equal_calls_return_equal_results(self):
        for case in range(2):
            self.assertEqual(first_unlike(Book(SWITCH), LIVE, LOOP), first_unlike(BOOK, LIVE, LOOP))
            self.assertIs(can_do(BOOK, LIVE, ("x", "v")), True)
        self.assertTrue(BOOK == Book(SWITCH) and LIVE == Request(SWITCH, TWICE))

    def test_what_is_passed_is_not_changed(self):
        row = ["x", "u"]
        self.assertIs(can_do(BOOK, LIVE, row), False)
        self.assertEqual(row, ["x", "u"])

    def test_kinds(self):
        who, row = first_unlike(PRICE_FIRST, BUY, BUY.keeping(tax="begin"))
        self.assertEqual((type(who), type(row)), (int, tuple))
        self.assertIsInstance(first_unlike(BOOK, LIVE, LOOP), tuple)

    def test_functions_stand_in_this_file(self):
        for function in (can_do, first_unlike, is_within):
            self.assertEqual(function.__module__, alike.__name__)


if __name__ == "__main__":
    unittest.main()
