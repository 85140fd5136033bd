"""midswitch/verdicts.py: certificates, point [21], runs to a row and to a place, and the conventions."""

import unittest

import oracle
from midswitch import verdicts
from midswitch.books import Book
from midswitch.errors import BadNumber, BadPaper, SwitchError, TooMany
from midswitch.requests import MODES, Request
from midswitch.runs import is_right, is_torn, is_whole, place_of, row_of
from midswitch.tables import crossed, is_torn_node, start_nodes, table
from midswitch.verdicts import check, run_to, run_to_place, verdict
from samples import (GO, PAIR, PLACES, SWITCH, TWICE, Checks, any_kind, go, many_met_nodes, many_nodes,
                     many_torn_nodes, one_node_too_many, six_hundred_nodes, to, without_tuples)

BOOK = Book(SWITCH)
STILL = Book(SWITCH, switches=())
LIVE = Request(SWITCH, TWICE)
MET = Request(SWITCH, TWICE, ("met",))
BEGIN = Request(SWITCH, TWICE, ("begin",))
LOOP = Request(SWITCH, (("do", "x", 1), ("ask", "a", (0, 2)), ("end",)))
END_AT_ONCE = Request(SWITCH, (("end",),))
ONE_WAY = Book(PAIR, starts=((0, 0),), switches=(((0, 0), (1, 0)), ((1, 0), (1, 1))))
TORN = ((0,), go(2) + (to(1),) + go(3))


class VerdictTest(Checks):

    def test_the_documents_example(self):
        request = Request(PAIR, PLACES)
        word, run = verdict(ONE_WAY, request)
        self.assertEqual([word, len(run[1])], ["torn", 7])
        self.assertIs(is_torn(ONE_WAY, request, run), True)
        self.assertEqual(check(ONE_WAY, request, (word, run)), "torn")

    def test_torn(self):
        word, run = paper = verdict(BOOK, LIVE)
        self.assertEqual((word, len(run[1])), ("torn", 6))
        self.assertIs(is_torn(BOOK, LIVE, run), True)
        self.assertIsInstance(paper, tuple)
        self.assertEqual(check(BOOK, LIVE, paper), "torn")

    def test_whole(self):
        for request in (MET, BEGIN, END_AT_ONCE):
            self.assertEqual(verdict(BOOK, request), ("whole", table(BOOK, request)))
            self.assertEqual(check(BOOK, request, verdict(BOOK, request)), "whole")

    def test_without_switches_or_starts_nothing_is_torn(self):
        for request in (LIVE, MET, BEGIN, LOOP, END_AT_ONCE):
            self.assertEqual(verdict(STILL, request), ("whole", table(STILL, request)))
            self.assertEqual(verdict(Book(SWITCH, starts=()), request), ("whole", ()))

    def test_an_end_that_no_plain_row_reaches(self):
        never = Request(SWITCH, (("ask", "a", (1, 2)), ("ask", "a", (1, 3)), ("ask", "a", (3, 2)), ("end",)))
        word, run = verdict(BOOK, never)
        self.assertEqual((word, len(run[1])), ("torn", 4))
        self.assertIs(is_torn(BOOK, never, run), True)

    def test_a_request_that_never_ends(self):
        for places in ((("do", "x", 0),), (("ask", "a", (0, 0)),), (("ask", "a", (1, 0)), ("do", "x", 0))):
            self.assertEqual(verdict(BOOK, Request(SWITCH, places))[0], "whole")

    def test_no_torn_run_is_shorter(self):
        torn = 0
        for book, request in oracle.random_cases(1000, 51):
            states = oracle.all_states(book, request)
            fewest = oracle.fewest_torn(states)
            word, told = paper = verdict(book, request)
            self.assertEqual(check(book, request, paper), word)
            if fewest is None:
                self.assertEqual(paper, ("whole", oracle.nodes(states)))
            else:
                self.assertEqual((word, len(told[1])), ("torn", fewest))
                self.assertIs(is_torn(book, request, told), True)
                self.assertIs(oracle.followed(book, request, told).is_torn(), True)
            torn += word == "torn"
        self.assertGreater(torn, 20)

    def test_with_all_begin_a_request_is_never_torn(self):
        for book, request in oracle.random_cases(200, 53):
            kept = request.with_modes(("begin",) * len(request.settings))
            self.assertEqual(verdict(book, kept)[0], "whole")

    def test_more_kept_settings_may_make_torn_what_was_not(self):
        book = Book(PAIR, starts=((0, 0),), switches=(((0, 0), (0, 1)), ((0, 1), (1, 1))))
        request = Request(PAIR, PLACES)
        self.assertEqual(verdict(book, request)[0], "whole")
        self.assertEqual(verdict(book, request.keeping(tax="begin"))[0], "torn")
        self.assertEqual(verdict(book, request.keeping(tax="met"))[0], "whole")
        self.assertEqual(verdict(book, request.keeping(tax="begin", price="begin"))[0], "whole")

    def test_too_many_nodes(self):
        book, request = six_hundred_nodes()
        self.assertEqual(verdict(book, request), ("whole", table(book, request)))
        for book, request in (many_nodes(), one_node_too_many(), many_torn_nodes()):
            self.refused(TooMany, "most", 600, verdict, book, request)

    def test_a_torn_run_of_too_many_nodes_can_be_checked(self):
        book, request = many_torn_nodes()
        paper = ("torn", ((0, 0, 0), go(2) + (to(0, 1, 0),) + go(3)))
        self.assertEqual(check(book, request, paper), "torn")


class CheckWholeTest(Checks):

    def wrong(self, place, paper, book=BOOK, request=MET):
        self.refused(BadPaper, "place", place, check, book, request, paper)

    def test_a_node_left_out(self):
        for request in (MET, BEGIN):
            nodes = table(BOOK, request)
            for at in range(len(nodes)):
                self.wrong("whole", ("whole", nodes[:at] + nodes[at + 1:]), BOOK, request)
            self.wrong("whole", ("whole", ()), BOOK, request)

    def test_one_too_many_that_is_closed(self):
        nodes = table(STILL, LIVE)
        for more in ((6, (0,), (-1,), 2, (((0,), 1), ((1,), 1))), (5, (0,), (-1,), 1, (((1,), 1),))):
            self.assertNotIn(more, nodes)
            after = {(6, (0,), (-1,), 2, (((1,), 1),))} if more[0] == 5 else set()
            bigger = tuple(sorted(set(nodes) | {more} | after))
            self.assertEqual(check(STILL, LIVE, ("whole", bigger)), "whole")

    def test_one_too_many_that_is_not_closed(self):
        more = (5, (0,), (-1,), 1, (((1,), 1),))
        self.wrong("whole", ("whole", tuple(sorted(table(STILL, LIVE) + (more,)))), STILL, LIVE)

    def test_one_too_many_that_is_torn(self):
        more = (6, (0,), (-1,), 0, ())
        self.assertIs(is_torn_node(STILL, LIVE, more), True)
        self.wrong("whole", ("whole", tuple(sorted(table(STILL, LIVE) + (more,)))), STILL, LIVE)

    def test_one_twice(self):
        nodes = table(BOOK, MET)
        for at in range(len(nodes)):
            self.wrong("whole", ("whole", nodes[:at + 1] + nodes[at:]))

    def test_another_order(self):
        nodes = table(BOOK, MET)
        self.wrong("whole", ("whole", nodes[::-1]))
        for at in range(len(nodes) - 1):
            self.wrong("whole", ("whole", nodes[:at] + (nodes[at + 1], nodes[at]) + nodes[at + 2:]))

    def test_a_torn_request(self):
        self.assertIn(True, [is_torn_node(BOOK, LIVE, node) for node in table(BOOK, LIVE)])
        self.wrong("whole", ("whole", table(BOOK, LIVE)), BOOK, LIVE)

    def test_starts_that_are_missing(self):
        for start in ((0,), (1,)):
            part = table(BOOK.starting(start), END_AT_ONCE)
            self.wrong("whole", ("whole", part), BOOK, END_AT_ONCE)
            self.assertEqual(check(BOOK.starting(start), END_AT_ONCE, ("whole", part)), "whole")

    def test_the_nodes_of_another_book(self):
        self.wrong("whole", ("whole", table(STILL, MET)))
        self.assertEqual(check(STILL, BEGIN, ("whole", table(BOOK, BEGIN))), "whole")

    def test_no_nodes(self):
        empty = Book(SWITCH, starts=())
        for request in (LIVE, MET, BEGIN):
            self.assertEqual(check(empty, request, ("whole", ())), "whole")
            self.wrong("whole", ("whole", ()), BOOK, request)
        self.assertEqual(check(empty, MET, ("whole", table(BOOK, MET))), "whole")

    def test_more_than_600_nodes(self):
        book, request = one_node_too_many()
        nodes = oracle.nodes(oracle.all_states(book, request))
        self.assertEqual(len(nodes), 601)
        self.assertEqual(check(book, request, ("whole", nodes)), "whole")
        self.wrong("whole", ("whole", nodes[1:]), book, request)
        book, request = many_nodes()
        self.wrong("whole", ("whole", start_nodes(book, request)), book, request)


class CheckTornTest(Checks):

    def wrong(self, run, request=LIVE, book=BOOK):
        self.refused(BadPaper, "place", "torn", check, book, request, ("torn", run))

    def test_a_torn_run(self):
        self.assertEqual(check(BOOK, LIVE, ("torn", TORN)), "torn")
        longer = ((0,), (to(1), to(0)) + TORN[1])
        self.assertEqual(check(BOOK, LIVE, ("torn", longer)), "torn")

    def test_a_right_run_that_is_not_whole(self):
        for many in range(6):
            run = (TORN[0], TORN[1][:many])
            self.assertIs(is_right(BOOK, LIVE, run), True)
            self.wrong(run)

    def test_a_whole_run_that_is_not_torn(self):
        for moves in (go(5), (to(1),) + go(5), go(4) + (to(1), GO)):
            self.assertIs(is_whole(BOOK, LIVE, ((0,), moves)), True)
            self.wrong(((0,), moves))
        self.wrong(TORN, MET)
        self.wrong(TORN, BEGIN)

    def test_a_run_that_is_not_right(self):
        self.wrong((TORN[0], TORN[1] + (GO,)))
        self.wrong((TORN[0], list(TORN[1])))
        self.wrong(list(TORN))
        self.wrong(TORN, LIVE, STILL)
        self.wrong(TORN, LIVE, Book(SWITCH, starts=((1,),)))

    def test_any_value(self):
        for thing in any_kind() + [table(BOOK, LIVE), (), BOOK, TORN[1]]:
            self.wrong(thing)


class CheckFormTest(Checks):

    def wrong(self, paper, request=LIVE):
        self.refused(BadPaper, "place", "form", check, BOOK, request, paper)

    def test_any_value(self):
        for thing in any_kind():
            self.wrong(thing)
            self.wrong((thing, TORN))
            self.wrong((thing, ()))
            self.wrong((thing,))
        for paper in ((), ("torn",), ("whole",), ("torn", TORN, 0), ("whole", (), ()), ["torn", TORN], ["whole", ()],
                      ("Torn", TORN), ("whole ", ()), (b"torn", TORN), (("torn",), TORN), (TORN, "torn"), (LIVE, ()),
                      "torn", "whole", ("form", ()), (0, TORN), TORN):
            self.wrong(paper)

    def test_no_tuple_of_nodes(self):
        for thing in without_tuples(any_kind()) + [list(table(BOOK, LIVE)), "nodes", BOOK]:
            self.wrong(("whole", thing))
        nodes = table(BOOK, LIVE)
        for thing in any_kind() + [list(nodes[0]), nodes, nodes[0][:4], nodes[0] + (0,), (7,) + nodes[0][1:],
                                   nodes[0][:3] + (-1,) + nodes[0][4:], nodes[0][:4] + (list(nodes[0][4]),)]:
            self.wrong(("whole", (thing,)))
            self.wrong(("whole", nodes + (thing,)))
            self.wrong(("whole", (thing,) + nodes[::-1]))

    def test_nodes_with_what_another_mode_keeps(self):
        self.wrong(("whole", table(BOOK, BEGIN)), LIVE)
        self.wrong(("whole", table(BOOK, LIVE)), BEGIN)

    def test_nodes_are_looked_at_ahead_of_their_order(self):
        nodes = table(BOOK, MET)
        self.wrong(("whole", nodes[::-1] + (3,)), MET)
        self.wrong(("whole", (nodes[0], nodes[0], (0,))), MET)

    def test_it_is_a_switch_error(self):
        with self.assertRaises(SwitchError):
            check(BOOK, LIVE, None)


class RunToTest(Checks):

    def reached(self, row, many, book=BOOK, request=LIVE):
        run = run_to(book, request, row)
        self.assertIs(is_whole(book, request, run), True)
        self.assertEqual(row_of(book, request, run), row)
        self.assertEqual(len(run[1]), many)

    def test_rows_that_can_be_done(self):
        self.reached(("x", "u"), 5)
        self.reached(("y", "v"), 5)
        self.reached(("x", "v"), 6)
        self.reached(("y", "u"), 6)
        self.reached(("x", "u"), 5, BOOK.starting((0,)))
        self.reached(("y", "v"), 6, BOOK.starting((0,)))
        self.reached(("y", "u"), 7, BOOK.starting((0,)))

    def test_rows_that_cannot_be_done(self):
        for row in ((), ("x",), ("u",), ("x", "x"), ("x", "u", "u"), ("u", "x"), ("z",), ("abcdefgh",) * 3):
            self.assertIsNone(run_to(BOOK, LIVE, row))
        self.assertIsNone(run_to(STILL, LIVE, ("x", "v")))
        for request in (MET, BEGIN):
            self.assertIsNone(run_to(BOOK, request, ("x", "v")))
            self.reached(("y", "v"), 5, BOOK, request)
        self.reached(("y", "v"), 6, BOOK.starting((0,)), MET)
        self.assertIsNone(run_to(BOOK.starting((0,)), BEGIN, ("y", "v")))
        self.assertIsNone(run_to(Book(SWITCH, starts=()), LIVE, ("x", "u")))

    def test_the_empty_row(self):
        self.reached((), 1, BOOK, END_AT_ONCE)
        self.assertIsNone(run_to(Book(SWITCH, starts=()), END_AT_ONCE, ()))
        asks = Request(SWITCH, (("ask", "a", (1, 2)), ("do", "x", 2), ("end",)))
        self.reached((), 2, BOOK, asks)
        self.reached((), 3, BOOK.starting((0,)), asks)
        self.assertIsNone(run_to(STILL.starting((0,)), asks, ()))

    def test_rows_of_loops_however_many_names(self):
        for many in (1, 2, 17, 100, 2000):
            self.reached(("x",) * many, 2 * many + 2, BOOK.starting((0,)), LOOP)
        self.assertIsNone(run_to(BOOK, LOOP, ("x",) * 2000 + ("y",)))
        self.assertIsNone(run_to(BOOK, LIVE, ("x",) * 2000))
        self.assertIsNone(run_to(STILL, LOOP, ("x",) * 2))

    def test_a_row_on_the_way_is_not_enough(self):
        never = Request(SWITCH, (("do", "x", 0),))
        self.assertIsNone(run_to(BOOK, never, ("x",)))

    def test_the_fewest_moves(self):
        done = 0
        for book, request in oracle.random_cases(300, 61):
            rows = {state.row for state, many in oracle.all_states(book, request) if len(state.row) < 6}
            for row in sorted(rows | {(), ("x",), ("y", "x")}):
                fewest = oracle.fewest_to_row(book, request, row)
                if fewest is None:
                    self.assertIsNone(run_to(book, request, row))
                else:
                    self.reached(row, fewest, book, request)
                    done += 1
        self.assertGreater(done, 100)

    def test_things_that_are_no_rows(self):
        for thing in without_tuples(any_kind()) + ["x", ["x"], {"x": 1}, True]:
            self.refused(BadNumber, "value", thing, run_to, BOOK, LIVE, thing)
        for item in any_kind() + ["X", "abcdefghi", "x y", b"x", ("x",), ["x"], "", 0]:
            if item != "end":
                for row in ((item,), ("x", item), ("x",) * 20 + (item, "x")):
                    self.refused(BadNumber, "value", row, run_to, BOOK, LIVE, row)

    def test_the_value_is_the_thing_itself(self):
        row = ["x", "u"]
        with self.assertRaises(BadNumber) as caught:
            run_to(BOOK, LIVE, row)
        self.assertIs(caught.exception.value, row)
        self.assertEqual(row, ["x", "u"])

    def test_too_many_nodes(self):
        book, request = six_hundred_nodes()
        self.reached((), 1, book, request)
        for book, request in (many_nodes(), one_node_too_many(), many_torn_nodes()):
            for row in ((), ("x",), ("x", "u"), ("z",)):
                self.refused(TooMany, "most", 600, run_to, book, request, row)
            self.refused(BadNumber, "value", None, run_to, book, request, None)
        self.assertIsNone(run_to(book.starting(), request, ("x",)))


class RunToPlaceTest(Checks):

    def reached(self, place, many, book=BOOK, request=LIVE):
        run = run_to_place(book, request, place)
        self.assertIs(is_right(book, request, run), True)
        self.assertEqual(place_of(book, request, run), place)
        self.assertEqual(len(run[1]), many)

    def test_each_place(self):
        for place, many in enumerate((0, 1, 1, 2, 3, 3, 4)):
            self.reached(place, many)
        for place, many in enumerate((0, 1, 2, 2, 3, 4, 4)):
            self.reached(place, many, BOOK.starting((0,)))
        for place, many in enumerate((0, 1, None, 2, 3, None, 4)):
            if many is None:
                self.assertIsNone(run_to_place(BOOK.starting((0,)), BEGIN, place))
            else:
                self.reached(place, many, BOOK.starting((0,)), BEGIN)

    def test_the_place_0(self):
        self.assertEqual(run_to_place(BOOK.starting((1,)), LIVE, 0), ((1,), ()))
        self.reached(0, 0, BOOK, END_AT_ONCE)
        self.assertIsNone(run_to_place(Book(SWITCH, starts=()), LIVE, 0))

    def test_a_place_to_which_nobody_comes(self):
        request = Request(SWITCH, (("do", "x", 2), ("do", "y", 2), ("end",)))
        self.assertIsNone(run_to_place(BOOK, request, 1))
        self.reached(2, 1, BOOK, request)
        self.assertIsNone(run_to_place(STILL.starting((0,)), LIVE, 2))

    def test_the_fewest_moves(self):
        for book, request in oracle.random_cases(300, 67):
            states = oracle.all_states(book, request)
            for place in range(len(request)):
                fewest = min([many for state, many in states if state.place == place], default=None)
                if fewest is None:
                    self.assertIsNone(run_to_place(book, request, place))
                else:
                    self.reached(place, fewest, book, request)

    def test_a_run_to_a_crossed_place_has_a_switch(self):
        request = Request(PAIR, PLACES)
        for place in crossed(ONE_WAY, request):
            moves = run_to_place(ONE_WAY, request, place)[1]
            self.assertNotEqual(moves, go(len(moves)))

    def test_things_that_are_no_places(self):
        for thing in any_kind() + [7, -1, 16, True, False, "0", (0,), [0], BOOK]:
            if isinstance(thing, bool) or not isinstance(thing, int) or not 0 <= thing < 7:
                with self.assertRaises(BadNumber) as caught:
                    run_to_place(BOOK, LIVE, thing)
                self.assertIs(caught.exception.value, thing)
        self.refused(BadNumber, "value", 1, run_to_place, BOOK, END_AT_ONCE, 1)

    def test_too_many_nodes(self):
        book, request = six_hundred_nodes()
        self.reached(0, 0, book, request)
        for book, request in (many_nodes(), one_node_too_many(), many_torn_nodes()):
            for place in range(len(request)):
                self.refused(TooMany, "most", 600, run_to_place, book, request, place)
            self.refused(BadNumber, "value", 16, run_to_place, book, request, 16)


class ConventionsTest(Checks):

    def test_names_of_parameters(self):
        self.assertEqual(verdict(request=MET, book=BOOK), ("whole", table(BOOK, MET)))
        self.assertEqual(check(paper=("torn", TORN), request=LIVE, book=BOOK), "torn")
        self.assertEqual(len(run_to(row=("x", "v"), request=LIVE, book=BOOK)[1]), 6)
        self.assertEqual(run_to_place(place=0, book=BOOK.starting((1,)), request=LIVE), ((1,), ()))

    def test_equal_calls_return_equal_results(self):
        book, request = Book(SWITCH), Request(SWITCH, TWICE)
        for modes in MODES:
            kept = request.with_modes((modes,))
            self.assertEqual(verdict(book, kept), verdict(Book(SWITCH), Request(SWITCH, TWICE, (modes,))))
        self.assertEqual(run_to(book, request, ("x", "v")), run_to(book, request, ("x", "v")))
        self.assertEqual(run_to_place(book, request, 6), run_to_place(book, request, 6))
        self.assertTrue(book == BOOK and request == LIVE)

    def test_what_is_passed_is_not_changed(self):
        nodes = list(table(BOOK, MET))
        self.refused(BadPaper, "place", "form", check, BOOK, MET, ("whole", nodes))
        self.assertEqual(nodes, list(table(BOOK, MET)))

    def test_functions_stand_in_this_file(self):
        for function in (verdict, check, run_to, run_to_place):
            self.assertEqual(function.__module__, verdicts.__name__)

    def test_modes_that_make_too_many_nodes(self):
        book, request = many_met_nodes()
        self.assertEqual(verdict(book, request)[0], "whole")
        self.refused(TooMany, "most", 600, verdict, book, request.with_modes(("met", "met")))


if __name__ == "__main__":
    unittest.main()
