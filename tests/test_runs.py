"""midswitch/runs.py: runs, rows, torn requests, points [13] to [16], and the conventions."""

import random
import unittest

import oracle
from midswitch import runs
from midswitch.books import Book
from midswitch.errors import BadRun, SwitchError
from midswitch.requests import Request
from midswitch.runs import is_right, is_torn, is_whole, lived, place_of, row_of
from samples import GO, GRID, PAIR, PLACES, SWITCH, TWICE, Checks, any_kind, go, to, without_tuples

BOOK = Book(SWITCH)
LIVE = Request(SWITCH, TWICE)
MET = Request(SWITCH, TWICE, ("met",))
BEGIN = Request(SWITCH, TWICE, ("begin",))
THREE = (("a", 2),)
MIXED = Request(THREE, (
    ("ask", "a", (1, 1, 2)), ("do", "x", 3), ("do", "y", 3),
    ("ask", "a", (4, 5, 5)), ("do", "u", 6), ("do", "v", 6), ("end",)))
LOOP = Request(SWITCH, (("do", "x", 1), ("ask", "a", (0, 2)), ("end",)))
WRONG_MOVES = [
    "go", "to", ["go"], ["to", (1,)], ("go", 1), ("go", (1,)), ("go", "go"), (("go",),), ("Go",), ("go ",), (b"go",),
    ("to",), ("to", (1,), 0), ("to", (1,), (0,)), ("to", [1]), ("to", (True,)), ("to", 1), ("to", "1"), ("to", (2,)),
    ("to", (-1,)), ("to", (1, 0)), ("to", ()), ("to", ((1,),)), ("to", None), ("To", (1,)), (b"to", (1,)),
    ("end",), (("to", (1,)),), ("go", "to", (1,)), ("to", BOOK), ("to", (BOOK,)), (BOOK, (1,)), (GO, GO),
]
WRONG_RUNS = [
    (), ((0,),), ((0,), (), ()), [(0,), ()], ((0,), []), ((0,), [GO]), ((0,), None), ((0,), "go"), ((0,), {}),
    ((0,), GO[0]), ((True,), ()), ((False,), ()), ([0], ()), (0, ()), ("0", ()), ((2,), ()), ((-1,), ()),
    ((0, 0), ()), ((), ()), (((0,),), ()), (None, ()), (BOOK, ()), ((0,), BOOK), ((0,), range(0)), ((), (0,)),
]


class RowTest(Checks):

    def row(self, request, run, book=BOOK):
        self.assertIs(is_right(book, request, run), True)
        return row_of(book, request, run)

    def test_without_switches(self):
        for request in (LIVE, MET, BEGIN):
            self.assertEqual(self.row(request, ((0,), go(5))), ("x", "u"))
            self.assertEqual(self.row(request, ((1,), go(5))), ("y", "v"))
        request = Request(PAIR, PLACES)
        for start in GRID:
            self.assertEqual(self.row(request, (start, go(5)), Book(PAIR)), request.plain(start))

    def test_a_row_on_the_way(self):
        rows = [self.row(LIVE, ((0,), go(many))) for many in range(6)]
        self.assertEqual(rows, [(), (), ("x",), ("x",), ("x", "u"), ("x", "u")])
        self.assertEqual(self.row(LIVE, ((0,), (to(1), to(0), to(1)))), ())

    def test_a_setting_that_is_asked_twice(self):
        run = ((0,), go(2) + (to(1),) + go(3))
        self.assertEqual(self.row(LIVE, run), ("x", "v"))
        self.assertEqual(self.row(MET, run), ("x", "u"))
        self.assertEqual(self.row(BEGIN, run), ("x", "u"))

    def test_a_setting_that_is_switched_before_its_first_ask(self):
        run = ((0,), (to(1),) + go(5))
        self.assertEqual(self.row(LIVE, run), ("y", "v"))
        self.assertEqual(self.row(MET, run), ("y", "v"))
        self.assertEqual(self.row(BEGIN, run), ("x", "u"))

    def test_a_setting_that_is_switched_before_and_behind_its_first_ask(self):
        run = ((0,), (to(1), GO, to(0)) + go(4))
        self.assertEqual(self.row(LIVE, run), ("y", "u"))
        self.assertEqual(self.row(MET, run), ("y", "v"))
        self.assertEqual(self.row(BEGIN, run), ("x", "u"))

    def test_each_setting_has_its_own_mode(self):
        places = (("ask", "price", (1, 2)), ("do", "a", 3), ("do", "b", 3), ("ask", "tax", (4, 5)), ("do", "c", 6),
                  ("do", "d", 6), ("ask", "price", (7, 8)), ("do", "e", 9), ("do", "f", 9), ("end",))
        run = ((0, 0), (GO, to(1, 0), to(1, 1)) + go(6))
        for modes, row in ((("live", "live"), ("a", "d", "f")), (("met", "live"), ("a", "d", "e")),
                           (("live", "met"), ("a", "d", "f")), (("live", "begin"), ("a", "c", "f")),
                           (("begin", "met"), ("a", "d", "e")), (("begin", "begin"), ("a", "c", "e"))):
            self.assertEqual(self.row(Request(PAIR, places, modes), run, Book(PAIR)), row)

    def test_loops(self):
        self.assertEqual(self.row(LOOP, ((0,), go(7))), ("x",) * 4)
        self.assertEqual(self.row(LOOP, ((0,), go(7) + (to(1),) + go(2))), ("x",) * 4)
        self.assertEqual(self.row(LOOP, ((0,), (GO, to(1), to(0), GO, GO))), ("x",) * 2)

    def test_a_long_run(self):
        run = ((0,), (GO, to(1), to(0), GO) * 3000 + (GO, to(1), GO, GO))
        self.assertEqual(self.row(LOOP, run), ("x",) * 3001)
        self.assertIs(is_whole(BOOK, LOOP, run), True)

    def test_begun_at_an_end(self):
        request = Request(SWITCH, (("end",),))
        self.assertEqual(self.row(request, ((1,), ())), ())
        self.assertEqual(self.row(request, ((1,), (to(0), GO))), ())


class PlaceTest(Checks):

    def test_each_place_of_a_way(self):
        places = [place_of(BOOK, LIVE, ((0,), go(many))) for many in range(6)]
        self.assertEqual(places, [0, 1, 3, 4, 6, None])
        self.assertIs(type(places[0]), int)

    def test_a_switch_does_not_go_on(self):
        self.assertEqual(place_of(BOOK, LIVE, ((0,), (to(1),))), 0)
        self.assertEqual(place_of(BOOK, LIVE, ((0,), (to(1), GO, to(0)))), 2)

    def test_at_an_end_and_behind_it(self):
        at_the_end = ((0,), go(4))
        switched = ((0,), go(4) + (to(1), to(0)))
        behind = ((0,), go(4) + (to(1), GO))
        self.assertEqual(place_of(BOOK, LIVE, at_the_end), 6)
        self.assertEqual(place_of(BOOK, LIVE, switched), 6)
        self.assertIsNone(place_of(BOOK, LIVE, behind))

    def test_several_ends(self):
        request = Request(SWITCH, (("ask", "a", (1, 2)), ("end",), ("end",)))
        self.assertEqual([place_of(BOOK, request, ((start,), (GO,))) for start in (0, 1)], [1, 2])


class LivedTest(Checks):

    def test_ascending_each_once(self):
        self.assertEqual(lived(BOOK, LIVE, ((1,), ())), ((1,),))
        self.assertEqual(lived(BOOK, LIVE, ((1,), (to(0),))), ((0,), (1,)))
        self.assertEqual(lived(BOOK, LIVE, ((1,), (to(0), GO, to(1), to(0)))), ((0,), (1,)))
        self.assertEqual(lived(Book(PAIR), Request(PAIR, PLACES), ((1, 1), (to(1, 0), GO, to(0, 0)))),
                         ((0, 0), (1, 0), (1, 1)))

    def test_a_switch_at_an_end_counts(self):
        self.assertEqual(lived(BOOK, LIVE, ((0,), go(4) + (to(1), GO))), ((0,), (1,)))


class WholeTest(Checks):

    def test_whole(self):
        for moves, whole in ((go(5), True), (go(4), False), (go(4) + (to(1),), False), (go(4) + (to(1), GO), True),
                             ((), False), (go(6), False), (go(5) + (to(1),), False), ((to(1),) + go(5), True)):
            self.assertIs(is_whole(BOOK, LIVE, ((0,), moves)), whole)

    def test_one_that_goes_on_for_ever_is_never_whole(self):
        request = Request(SWITCH, (("do", "x", 0),))
        for many in range(20):
            self.assertIs(is_right(BOOK, request, ((0,), go(many))), True)
            self.assertIs(is_whole(BOOK, request, ((0,), go(many))), False)
            self.assertIs(is_torn(BOOK, request, ((0,), go(many))), False)

    def test_torn(self):
        run = ((0,), go(2) + (to(1),) + go(3))
        self.assertIs(is_torn(BOOK, LIVE, run), True)
        self.assertIs(is_torn(BOOK, MET, run), False)
        self.assertIs(is_torn(BOOK, BEGIN, run), False)
        self.assertIs(is_torn(BOOK, LIVE, ((0,), go(5))), False)
        self.assertIs(is_torn(BOOK, LIVE, ((0,), (to(1),) + go(5))), False)
        self.assertIs(is_torn(BOOK, LIVE, ((0,), go(4) + (to(1), GO))), False)

    def test_a_run_that_is_not_whole_is_not_torn(self):
        self.assertIs(is_torn(BOOK, LIVE, ((0,), go(2) + (to(1),) + go(2))), False)
        self.assertIs(is_torn(BOOK, LIVE, ((0,), go(2) + (to(1),) + go(4))), False)

    def test_the_row_is_that_of_a_standing_that_was_not_lived_through(self):
        book = Book(THREE, switches=(((0,), (1,)), ((0,), (2,)), ((1,), (2,))))
        straight = ((0,), go(2) + (to(2),) + go(3))
        through = ((0,), go(2) + (to(1), to(2)) + go(3))
        before = ((0,), (GO, to(1), GO, to(2)) + go(3))
        self.assertEqual(MIXED.plain((1,)), ("x", "v"))
        for run, torn in ((straight, True), (through, False), (before, False)):
            self.assertEqual(row_of(book, MIXED, run), ("x", "v"))
            self.assertIs(is_torn(book, MIXED, run), torn)

    def test_a_standing_that_is_lived_through_at_the_end(self):
        book = Book(THREE, switches=(((0,), (2,)), ((2,), (1,))))
        run = ((0,), go(2) + (to(2),) + go(2))
        self.assertIs(is_torn(book, MIXED, (run[0], run[1] + (GO,))), True)
        self.assertIs(is_torn(book, MIXED, (run[0], run[1] + (to(1), GO))), False)

    def test_a_standing_without_a_plain_row(self):
        self.assertEqual([LOOP.plain((0,)), LOOP.plain((1,))], [None, ("x",)])
        self.assertIs(is_torn(BOOK, LOOP, ((0,), (GO, to(1)) + go(2))), False)
        self.assertIs(is_torn(BOOK, LOOP, ((0,), go(3) + (to(1),) + go(2))), True)
        never = Request(SWITCH, (("ask", "a", (1, 2)), ("ask", "a", (1, 3)), ("ask", "a", (3, 2)), ("end",)))
        run = ((0,), (GO, to(1), GO, GO))
        self.assertEqual([never.plain((0,)), never.plain((1,))], [None, None])
        self.assertEqual(row_of(BOOK, never, run), ())
        self.assertIs(is_torn(BOOK, never, run), True)

    def test_a_row_that_is_shorter_or_longer(self):
        shorter = Request(SWITCH, (("ask", "a", (1, 5)), ("do", "x", 2), ("ask", "a", (3, 4)), ("do", "x", 4),
                                   ("end",), ("do", "x", 3)))
        self.assertEqual([shorter.plain((0,)), shorter.plain((1,))], [("x", "x")] * 2)
        run = ((0,), go(2) + (to(1),) + go(2))
        self.assertEqual(row_of(BOOK, shorter, run), ("x",))
        self.assertIs(is_torn(BOOK, shorter, run), True)
        self.assertIs(is_torn(BOOK, shorter, ((0,), go(5))), False)
        longer = Request(SWITCH, (("ask", "a", (1, 2)), ("do", "x", 2), ("do", "x", 3), ("ask", "a", (5, 4)),
                                  ("do", "x", 5), ("end",)))
        self.assertEqual([longer.plain((0,)), longer.plain((1,))], [("x", "x")] * 2)
        run = ((0,), go(2) + (to(1),) + go(4))
        self.assertEqual(row_of(BOOK, longer, run), ("x", "x", "x"))
        self.assertIs(is_torn(BOOK, longer, run), True)


class RefusedTest(Checks):

    def wrong(self, run, place, book=BOOK, request=LIVE):
        for function in (row_of, lived, place_of):
            self.refused(BadRun, "place", place, function, book, request, run)
        for function in (is_right, is_whole, is_torn):
            self.assertIs(function(book, request, run), False)

    def test_no_pair_of_a_start_and_a_tuple(self):
        for thing in any_kind() + WRONG_RUNS:
            self.wrong(thing, None)
        for thing in any_kind():
            self.wrong((thing, ()), None)
            self.wrong((thing, go(1)), None)
        for thing in without_tuples(any_kind()):
            self.wrong(((0,), thing), None)

    def test_a_start_that_is_no_start_of_the_book(self):
        book = Book(SWITCH, starts=((1,),))
        self.wrong(((0,), ()), None, book)
        self.wrong(((0,), 3), None, book)
        self.wrong(((0,), (3,)), None, book)
        self.assertIs(is_right(book, LIVE, ((1,), (to(0),))), True)
        self.wrong(((1,), ()), None, Book(SWITCH, starts=()))

    def test_things_that_are_no_moves(self):
        for thing in any_kind() + WRONG_MOVES:
            self.wrong(((0,), (thing,)), 0)
            self.wrong(((0,), go(2) + (thing,) + go(1)), 2)
            self.wrong(((0,), (to(1), to(0), GO, thing, thing)), 3)

    def test_a_tuple_of_any_kind_as_moves(self):
        for thing in any_kind():
            if isinstance(thing, tuple):
                self.wrong(((0,), thing), 0)

    def test_a_switch_that_no_pair_allows(self):
        book = Book(THREE, switches=(((0,), (1,)), ((1,), (2,))))
        self.wrong(((0,), (to(2),)), 0, book, MIXED)
        self.wrong(((0,), (to(0),)), 0, book, MIXED)
        self.wrong(((0,), (to(1), to(0))), 1, book, MIXED)
        self.wrong(((0,), (to(1), GO, to(2), to(1))), 3, book, MIXED)
        self.assertEqual(lived(book, MIXED, ((0,), (to(1), GO, to(2)))), ((0,), (1,), (2,)))
        self.wrong(((0,), (to(1),)), 0, Book(SWITCH, switches=()))

    def test_behind_an_end_there_is_no_move(self):
        self.wrong(((0,), go(6)), 5)
        self.wrong(((0,), go(5) + (to(1),)), 5)
        self.wrong(((0,), (to(1),) + go(5) + (to(0), GO)), 6)
        self.wrong(((0,), go(2)), 1, BOOK, Request(SWITCH, (("end",),)))

    def test_the_first_of_several_wrong_moves(self):
        self.wrong(((0,), (GO, to(0), 3, to(0))), 1)
        self.wrong(((0,), go(5) + (GO, 3)), 5)
        self.wrong(((0,), (3, to(0))), 0)
        self.wrong((3, (3,)), None)

    def test_it_is_a_switch_error(self):
        with self.assertRaises(SwitchError):
            row_of(BOOK, LIVE, 3)


class ConventionsTest(Checks):

    def test_names_of_parameters(self):
        run = ((0,), go(2) + (to(1),) + go(3))
        self.assertEqual(row_of(run=run, request=LIVE, book=BOOK), ("x", "v"))
        self.assertEqual(lived(request=LIVE, run=run, book=BOOK), ((0,), (1,)))
        self.assertIsNone(place_of(run=run, book=BOOK, request=LIVE))
        for function in (is_right, is_whole, is_torn):
            self.assertIs(function(run=run, request=LIVE, book=BOOK), True)

    def test_nothing_is_changed(self):
        book, request = Book(SWITCH), Request(SWITCH, TWICE, ("met",))
        run = ((0,), go(2) + (to(1),) + go(3))
        wrong = ((0,), [GO])
        for function in (is_right, is_whole, is_torn, row_of, lived, place_of):
            self.assertEqual(function(book, request, run), function(book, request, run))
        is_right(book, request, wrong)
        self.assertEqual(wrong, ((0,), [GO]))
        self.assertTrue(book == BOOK and request == MET)

    def test_functions_stand_in_this_file(self):
        for function in (is_right, is_whole, is_torn, row_of, lived, place_of):
            self.assertEqual(function.__module__, runs.__name__)


class OracleTest(Checks):

    def test_random_runs(self):
        rng = random.Random(1)
        for book, request in oracle.random_cases(400, 11):
            for start in book.starts:
                for trial in range(4):
                    self.compare(book, request, (start, random_moves(rng, book, request, start)))

    def compare(self, book, request, run):
        told = oracle.followed(book, request, run)
        self.assertIs(is_right(book, request, run), not isinstance(told, int))
        if isinstance(told, int):
            for function in (row_of, lived, place_of):
                self.refused(BadRun, "place", told, function, book, request, run)
            self.assertIs(is_whole(book, request, run), False)
            self.assertIs(is_torn(book, request, run), False)
        else:
            self.assertEqual(row_of(book, request, run), told.row)
            self.assertEqual(lived(book, request, run), tuple(sorted(told.lived)))
            self.assertEqual(place_of(book, request, run), told.place)
            self.assertIs(is_whole(book, request, run), told.place is None)
            self.assertIs(is_torn(book, request, run), told.is_torn())


def random_moves(rng, book, request, start):
    """Moves that can mostly be made."""
    moves, state = [], oracle.State(book, request, start)
    while len(moves) < 14 and rng.random() < 0.97:
        every = state.moves()
        good = [move for move in every if state.moved(move) is not None]
        move = rng.choice(good if good and rng.random() < 0.95 else every)
        if rng.random() < 0.6:
            move = GO
        moves.append(move)
        state = state.moved(move) or state
    return tuple(moves)


if __name__ == "__main__":
    unittest.main()
