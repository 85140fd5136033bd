"""midswitch/tables.py: nodes, tables and crossed places, points [17] to [20], and the conventions."""

import itertools
import unittest

import oracle
from midswitch import tables
from midswitch.books import Book
from midswitch.errors import BadNode, SwitchError, TooMany
from midswitch.requests import Request
from midswitch.runs import is_torn
from midswitch.settings import standings
from midswitch.tables import MOST_NODES, behind, crossed, is_torn_node, need_node, start_nodes, table
from samples import (GO, PAIR, PLACES, SWITCH, TWICE, Checks, any_kind, many_nodes, one_node_too_many,
                     six_hundred_nodes, without_tuples)

BOOK = Book(SWITCH)
LIVE = Request(SWITCH, TWICE)
MET = Request(SWITCH, TWICE, ("met",))
BEGIN = Request(SWITCH, TWICE, ("begin",))
# Its plain rows are none at (0,) and ("x",) at (1,).
LOOP = Request(SWITCH, (("do", "x", 1), ("ask", "a", (0, 2)), ("end",)))
NONE = (-1,)


def marks(*pairs):
    """A match over the setting of SWITCH, or of one like it: each pair is a value, and 0 or 1."""
    return tuple([((value,), mark) for value, mark in pairs])


BOTH = marks((0, 1), (1, 1))


class StartNodesTest(Checks):

    def test_the_match_has_1_for_the_start_alone(self):
        self.assertEqual(start_nodes(BOOK, LIVE), (
            (0, (0,), NONE, 0, marks((0, 1), (1, 0))), (0, (1,), NONE, 0, marks((0, 0), (1, 1)))))

    def test_what_is_kept(self):
        self.assertEqual([node[2] for node in start_nodes(BOOK, MET)], [(-1,), (-1,)])
        self.assertEqual([node[2] for node in start_nodes(BOOK, BEGIN)], [(0,), (1,)])
        request = Request(PAIR, PLACES, ("begin", "met"))
        self.assertEqual([node[2] for node in start_nodes(Book(PAIR), request)], [(0, -1), (0, -1), (1, -1), (1, -1)])

    def test_starts_alone(self):
        book = Book(SWITCH, starts=((1,),))
        self.assertEqual(start_nodes(book, LIVE), ((0, (1,), NONE, 0, marks((0, 0), (1, 1))),))
        self.assertEqual(start_nodes(Book(SWITCH, starts=()), LIVE), ())

    def test_standings_without_a_plain_row_are_left_out(self):
        self.assertEqual(start_nodes(BOOK, LOOP), (
            (0, (0,), NONE, 0, marks((1, 0))), (0, (1,), NONE, 0, marks((1, 1)))))
        never = Request(SWITCH, (("do", "x", 0),))
        self.assertEqual(start_nodes(BOOK, never), ((0, (0,), NONE, 0, ()), (0, (1,), NONE, 0, ())))

    def test_ascending(self):
        book, request = many_nodes()
        nodes = start_nodes(book, request)
        self.assertEqual(list(nodes), sorted(set(nodes)))
        self.assertEqual([node[1] for node in nodes], list(standings(book.settings)))


class NeedNodeTest(Checks):

    def wrong(self, word, thing, request=LIVE, book=BOOK):
        for function in (need_node, behind, is_torn_node):
            self.refused(BadNode, "place", word, function, book, request, thing)

    def right(self, thing, request=LIVE, book=BOOK):
        self.assertIs(need_node(book, request, thing), thing)
        self.assertIsInstance(behind(book, request, thing), tuple)
        self.assertIsInstance(is_torn_node(book, request, thing), bool)

    def test_every_node_of_a_table(self):
        for request in (LIVE, MET, BEGIN, LOOP):
            for node in table(BOOK, request):
                self.right(node, request)

    def test_nodes_to_which_nobody_comes(self):
        for node in ((0, (0,), NONE, 0, ()), (0, (1,), NONE, 0, marks((0, 0), (1, 0))), (5, (0,), NONE, 2, BOTH),
                     (3, (1,), NONE, 2, marks((0, 0), (1, 0))), (1, (1,), NONE, 1, marks((0, 0))),
                     (0, (0,), NONE, 2, marks((1, 1)))):
            self.assertNotIn(node, table(BOOK, LIVE))
            self.right(node)
        self.right((0, (0,), NONE, 0, ()), LIVE, Book(SWITCH, starts=(), switches=()))

    def test_form(self):
        for thing in any_kind() + [(), (0, (0,), NONE, 0), (0, (0,), NONE, 0, (), 0), [0, (0,), NONE, 0, ()],
                                   ((0, (0,), NONE, 0, ()),), "nodes", BOOK]:
            self.wrong("form", thing)

    def test_place(self):
        for thing in any_kind():
            if not isinstance(thing, int) or isinstance(thing, bool) or not 0 <= thing < 7:
                self.wrong("place", (thing, (0,), NONE, 0, ()))
        for thing in (7, -1, True, False, (0,), "0", [0]):
            self.wrong("place", (thing, (0,), NONE, 0, ()))
        self.wrong("place", (1, (0,), NONE, 0, ()), Request(SWITCH, (("end",),)))
        for place in range(7):
            self.right((place, (0,), NONE, 0, ()))

    def test_standing(self):
        for thing in any_kind() + [(2,), (-1,), (True,), (False,), [0], 0, (0, 0), ((0,),), "0"]:
            self.wrong("standing", (0, thing, NONE, 0, ()))

    def test_kept_of_each_mode(self):
        for request, values in ((LIVE, (-1,)), (MET, (-1, 0, 1)), (BEGIN, (0, 1))):
            for value in (-2, -1, 0, 1, 2, 10 ** 999):
                node = (0, (0,), (value,), 0, ())
                if value in values:
                    self.right(node, request)
                else:
                    self.wrong("kept", node, request)

    def test_kept_of_another_kind(self):
        for request in (LIVE, MET, BEGIN):
            for thing in any_kind() + [(), (0, 0), (-1, -1), [0], [-1], ("0",), (None,), ((0,),), ([0],), (True,), (False,)]:
                self.wrong("kept", (0, (0,), thing, 0, ()), request)

    def test_kept_of_several_settings(self):
        settings = (("a", 1), ("b", 2), ("c", 1))
        places = (("end",),)
        request = Request(settings, places, ("live", "met", "begin"))
        for kept in itertools.product(range(-2, 4), repeat=3):
            node = (0, (0, 0, 0), kept, 0, ())
            if kept[0] == -1 and -1 <= kept[1] <= 2 and 0 <= kept[2] <= 1:
                self.right(node, request, Book(settings))
            else:
                self.wrong("kept", node, request, Book(settings))

    def test_many(self):
        for thing in any_kind() + [-1, -2, True, False, "0", (0,), [0]]:
            if not isinstance(thing, int) or isinstance(thing, bool) or thing < 0:
                self.wrong("many", (0, (0,), NONE, thing, ()))
                self.wrong("many", (0, (0,), NONE, thing, BOTH))

    def test_match_of_another_kind(self):
        for thing in without_tuples(any_kind()) + [list(BOTH), {}, "match"]:
            self.wrong("match", (0, (0,), NONE, 0, thing))
        for item in any_kind() + [(0,), ((0,),), ((0,), 1, 1), [(0,), 1], ([0], 1), ((0,), 2), ((0,), -1), ((0,), True),
                                  ((0,), False), ((0,), None), ((0,), "1"), ((0,), (1,)), ((2,), 0), ((True,), 0),
                                  ((0, 0), 0), (0, 0), (((0,),), 0), (BOOK, 1), ((0,), BOOK)]:
            self.wrong("match", (0, (0,), NONE, 0, (item,)))
            self.wrong("match", (0, (0,), NONE, 0, (((0,), 1), item)))

    def test_a_tuple_of_any_kind_as_match(self):
        for thing in any_kind():
            if isinstance(thing, tuple) and thing != ():
                self.wrong("match", (0, (0,), NONE, 0, thing))

    def test_match_with_a_standing_twice(self):
        for pairs in (((0, 0), (0, 0)), ((0, 0), (0, 1)), ((0, 1), (0, 0)), ((0, 1), (1, 0), (1, 1)), ((1, 1), (1, 1))):
            self.wrong("match", (0, (0,), NONE, 0, marks(*pairs)))

    def test_match_that_does_not_ascend(self):
        self.wrong("match", (0, (0,), NONE, 0, marks((1, 0), (0, 1))))
        self.wrong("match", (0, (0,), NONE, 0, marks((1, 1), (0, 1))))
        self.wrong("match", (0, (0,), NONE, 0, marks((0, 1), (1, 1), (0, 1))))

    def test_match_with_a_standing_without_a_plain_row(self):
        self.wrong("match", (0, (0,), NONE, 0, marks((0, 0))), LOOP)
        self.wrong("match", (0, (0,), NONE, 0, BOTH), LOOP)
        self.right((0, (0,), NONE, 1, marks((1, 0))), LOOP)

    def test_match_with_a_row_that_is_shorter_than_many(self):
        self.right((0, (0,), NONE, 2, BOTH))
        self.wrong("match", (0, (0,), NONE, 3, BOTH))
        self.wrong("match", (0, (0,), NONE, 10 ** 999, BOTH))
        uneven = Request(SWITCH, (("ask", "a", (2, 1)), ("do", "x", 2), ("end",)))
        self.right((0, (0,), NONE, 0, BOTH), uneven)
        self.right((0, (0,), NONE, 1, marks((1, 0))), uneven)
        self.wrong("match", (0, (0,), NONE, 1, BOTH), uneven)
        self.wrong("match", (0, (0,), NONE, 1, marks((0, 0))), uneven)

    def test_an_empty_match(self):
        self.right((0, (0,), NONE, 0, ()))
        self.wrong("match", (0, (0,), NONE, 1, ()))
        self.wrong("match", (0, (0,), NONE, 10 ** 999, ()))

    def test_the_first_word_of_several(self):
        right = (0, (0,), NONE, 0, ())
        bad = (("place", 7), ("standing", (2,)), ("kept", (0,)), ("many", -1), ("match", 3))
        for chosen in itertools.product((False, True), repeat=5):
            words = [word for (word, value), wrong in zip(bad, chosen) if wrong]
            node = tuple([value if wrong else part for (word, value), wrong, part in zip(bad, chosen, right)])
            if words:
                self.wrong(words[0], node)
                self.wrong("form", node + (0,))
                self.wrong("form", list(node))
            else:
                self.right(node)

    def test_it_is_a_switch_error(self):
        with self.assertRaises(SwitchError):
            need_node(BOOK, LIVE, 3)


class BehindTest(Checks):

    def test_an_ask_and_a_switch(self):
        self.assertEqual(behind(BOOK, LIVE, (0, (0,), NONE, 0, marks((0, 1), (1, 0)))), (
            (0, (1,), NONE, 0, BOTH), (1, (0,), NONE, 0, marks((0, 1), (1, 0)))))

    def test_a_deed(self):
        self.assertEqual(behind(BOOK, LIVE, (1, (0,), NONE, 0, marks((0, 1), (1, 0)))), (
            (1, (1,), NONE, 0, BOTH), (3, (0,), NONE, 1, marks((0, 1)))))
        self.assertEqual(behind(BOOK, LIVE, (4, (0,), NONE, 1, marks((0, 1)))), (
            (4, (1,), NONE, 1, marks((0, 1))), (6, (0,), NONE, 2, marks((0, 1)))))

    def test_a_deed_with_which_none_stays(self):
        self.assertEqual(behind(BOOK, LIVE, (5, (0,), NONE, 1, marks((0, 1)))), (
            (5, (1,), NONE, 1, marks((0, 1))), (6, (0,), NONE, 0, ())))
        self.assertEqual(behind(BOOK, LIVE, (5, (0,), NONE, 0, ())), ((5, (1,), NONE, 0, ()), (6, (0,), NONE, 0, ())))

    def test_a_deed_behind_the_last_one_of_a_plain_row(self):
        alone = Book(SWITCH, switches=())
        self.assertEqual(behind(alone, LIVE, (1, (0,), NONE, 2, BOTH)), ((3, (0,), NONE, 0, ()),))

    def test_rows_that_do_not_agree(self):
        request = Request(SWITCH, (("ask", "a", (1, 2)), ("do", "x", 3), ("do", "y", 3), ("do", "z", 4), ("end",)))
        alone = Book(SWITCH, switches=())
        self.assertEqual(behind(alone, request, (3, (0,), NONE, 1, BOTH)), ((4, (0,), NONE, 2, BOTH),))

    def test_a_switch_marks_the_new_standing_alone(self):
        none = marks((0, 0), (1, 0))
        self.assertEqual(behind(BOOK, LIVE, (0, (0,), NONE, 0, none)), (
            (0, (1,), NONE, 0, marks((0, 0), (1, 1))), (1, (0,), NONE, 0, none)))
        self.assertEqual(behind(BOOK, LIVE, (0, (0,), NONE, 0, marks((0, 0)))), (
            (0, (1,), NONE, 0, marks((0, 0))), (1, (0,), NONE, 0, marks((0, 0)))))
        self.assertEqual(behind(BOOK, LIVE, (0, (0,), NONE, 0, BOTH))[0], (0, (1,), NONE, 0, BOTH))

    def test_kept_with_met(self):
        alone = Book(SWITCH, switches=())
        for standing in (0, 1):
            self.assertEqual(behind(alone, MET, (0, (standing,), (-1,), 0, ())),
                             ((1 + standing, (standing,), (standing,), 0, ()),))
            for value in (0, 1):
                self.assertEqual(behind(alone, MET, (3, (standing,), (value,), 0, ())),
                                 ((4 + value, (standing,), (value,), 0, ()),))

    def test_kept_with_begin_and_live(self):
        alone = Book(SWITCH, switches=())
        for standing, value in itertools.product((0, 1), repeat=2):
            self.assertEqual(behind(alone, BEGIN, (0, (standing,), (value,), 0, ())),
                             ((1 + value, (standing,), (value,), 0, ()),))
            self.assertEqual(behind(alone, LIVE, (3, (standing,), NONE, 0, ())),
                             ((4 + standing, (standing,), NONE, 0, ()),))

    def test_a_switch_keeps_nothing(self):
        once = Book(SWITCH, switches=(((0,), (1,)),))
        self.assertEqual(behind(once, MET, (6, (0,), (-1,), 0, ())), ((6, (1,), (-1,), 0, ()),))
        self.assertEqual(behind(once, BEGIN, (6, (0,), (0,), 0, ())), ((6, (1,), (0,), 0, ()),))

    def test_at_an_end_there_are_switches_alone(self):
        self.assertEqual(behind(BOOK, LIVE, (6, (0,), NONE, 2, marks((0, 1), (1, 0)))), ((6, (1,), NONE, 2, BOTH),))
        self.assertEqual(behind(Book(SWITCH, switches=()), LIVE, (6, (0,), NONE, 2, BOTH)), ())
        self.assertEqual(behind(BOOK, LIVE, (6, (0,), NONE, 0, ())), ((6, (1,), NONE, 0, ()),))

    def test_ascending_each_once(self):
        for book, request in oracle.random_cases(60, 23):
            for node in start_nodes(book, request):
                after = behind(book, request, node)
                self.assertIsInstance(after, tuple)
                self.assertEqual(list(after), sorted(set(after)))
                self.assertEqual(len(after), len(book.after(node[1])) + (request.places[node[0]] != ("end",)))

    def test_every_node_has_some_behind_it_in_a_large_book(self):
        book, request = many_nodes()
        node = start_nodes(book, request)[0]
        self.assertEqual(len(behind(book, request, node)), 4)
        self.assertIs(is_torn_node(book, request, node), False)


class TornNodeTest(Checks):

    def test_at_an_end(self):
        for many, match, torn in (
            (2, BOTH, False), (2, marks((0, 1), (1, 0)), False), (2, marks((0, 0), (1, 1)), False),
            (2, marks((0, 0), (1, 0)), True), (2, marks((1, 1)), False), (2, marks((1, 0)), True),
            (1, BOTH, True), (0, BOTH, True), (0, (), True),
        ):
            for standing in ((0,), (1,)):
                self.assertIs(is_torn_node(BOOK, LIVE, (6, standing, NONE, many, match)), torn)

    def test_elsewhere(self):
        for place in range(6):
            self.assertIs(is_torn_node(BOOK, LIVE, (place, (0,), NONE, 0, ())), False)
            self.assertIs(is_torn_node(BOOK, LIVE, (place, (0,), NONE, 1, marks((0, 0)))), False)

    def test_one_of_several_rows(self):
        uneven = Request((("a", 2),), (("ask", "a", (1, 2, 3)), ("do", "x", 2), ("do", "x", 3), ("end",)))
        book = Book((("a", 2),))
        self.assertEqual([uneven.plain((value,)) for value in range(3)], [("x", "x"), ("x",), ()])
        for many, match, torn in ((1, marks((0, 1), (1, 0)), True), (1, marks((0, 0), (1, 1)), False),
                                  (1, marks((0, 1)), True), (2, marks((0, 1)), False),
                                  (0, marks((0, 1), (1, 1), (2, 0)), True), (0, marks((2, 1)), False)):
            self.assertIs(is_torn_node(book, uneven, (3, (0,), NONE, many, match)), torn)

    def test_an_end_at_once(self):
        request = Request(SWITCH, (("end",),))
        self.assertIs(is_torn_node(BOOK, request, (0, (0,), NONE, 0, BOTH)), False)
        self.assertIs(is_torn_node(BOOK, request, (0, (0,), NONE, 0, marks((0, 0), (1, 0)))), True)


class TableTest(Checks):

    def test_without_switches(self):
        book = Book(SWITCH, starts=((0,),), switches=())
        self.assertEqual(table(book, LIVE), (
            (0, (0,), NONE, 0, marks((0, 1), (1, 0))), (1, (0,), NONE, 0, marks((0, 1), (1, 0))),
            (3, (0,), NONE, 1, marks((0, 1))), (4, (0,), NONE, 1, marks((0, 1))), (6, (0,), NONE, 2, marks((0, 1)))))

    def test_without_starts(self):
        for request in (LIVE, MET, BEGIN, LOOP):
            self.assertEqual(table(Book(SWITCH, starts=()), request), ())
        book, request = many_nodes()
        self.assertEqual(table(book.starting(), request), ())

    def test_a_switch_at_an_end(self):
        book = Book(SWITCH, starts=((0,),))
        self.assertEqual(table(book, Request(SWITCH, (("end",),))), (
            (0, (0,), NONE, 0, marks((0, 1), (1, 0))), (0, (0,), NONE, 0, BOTH), (0, (1,), NONE, 0, BOTH)))

    def test_one_that_goes_on_for_ever(self):
        self.assertEqual(table(BOOK, Request(SWITCH, (("do", "x", 0),))), ((0, (0,), NONE, 0, ()), (0, (1,), NONE, 0, ())))

    def test_it_is_closed_and_ascends(self):
        for book, request in oracle.random_cases(150, 31):
            nodes = table(book, request)
            self.assertIsInstance(nodes, tuple)
            self.assertEqual(list(nodes), sorted(set(nodes)))
            self.assertLessEqual(set(start_nodes(book, request)), set(nodes))
            for node in nodes:
                self.assertIs(need_node(book, request, node), node)
                self.assertLessEqual(set(behind(book, request, node)), set(nodes))

    def test_it_has_just_the_nodes_of_all_runs(self):
        for book, request in oracle.random_cases(500, 37):
            self.assertEqual(table(book, request), oracle.nodes(oracle.all_states(book, request)))

    def test_a_run_is_torn_exactly_if_the_node_ahead_of_its_last_move_is(self):
        both = set()
        for book, request in oracle.random_cases(300, 41):
            for state, many in oracle.all_states(book, request):
                if state.place is not None and request.places[state.place] == ("end",):
                    torn = state.moved(GO).is_torn()
                    self.assertIs(is_torn_node(book, request, state.node()), torn)
                    both.add(torn)
        self.assertEqual(both, {True, False})

    def test_six_hundred_nodes_and_more(self):
        self.assertEqual(MOST_NODES, 600)
        book, request = six_hundred_nodes()
        self.assertEqual(len(table(book, request)), 600)
        self.assertEqual(crossed(book, request), ())
        for book, request in (one_node_too_many(), many_nodes()):
            self.refused(TooMany, "most", 600, table, book, request)
            self.refused(TooMany, "most", 600, crossed, book, request)


class CrossedTest(Checks):

    def test_places_to_which_switches_alone_lead(self):
        request = Request(PAIR, PLACES)
        book = Book(PAIR, starts=((0, 0),), switches=(((0, 0), (1, 0)), ((1, 0), (1, 1))))
        self.assertEqual(crossed(book, request), (2, 5))
        self.assertEqual(crossed(book.starting((0, 0), (1, 0)), request), (5,))
        self.assertEqual(crossed(book.starting((1, 1)), request), ())
        self.assertEqual(crossed(Book(PAIR), request), ())

    def test_behind_an_end_nothing_is_reached(self):
        request = Request(SWITCH, (("ask", "a", (1, 3)), ("end",), ("do", "y", 1), ("do", "x", 2)))
        self.assertEqual(crossed(BOOK.starting((0,)), request), (2, 3))
        self.assertEqual(crossed(BOOK.starting((1,)), request), ())

    def test_what_is_kept_is_not_crossed(self):
        request = Request(PAIR, PLACES, ("begin", "live"))
        book = Book(PAIR, starts=((0, 0),))
        self.assertEqual(crossed(book, request), (5,))
        self.assertEqual(crossed(book, request.keeping(tax="met")), (5,))
        self.assertEqual(crossed(book, request.keeping(tax="begin")), ())

    def test_a_place_of_no_plain_way(self):
        mixed = Request(SWITCH, (("ask", "a", (1, 2)), ("ask", "a", (3, 4)), ("end",), ("end",), ("do", "x", 5), ("end",)))
        self.assertEqual(crossed(BOOK, mixed), (4, 5))

    def test_a_place_to_which_nobody_comes(self):
        request = Request(SWITCH, (("end",), ("do", "x", 0), ("end",)))
        self.assertEqual(crossed(BOOK, request), ())

    def test_without_switches_or_starts(self):
        for request in (LIVE, MET, BEGIN, LOOP):
            self.assertEqual(crossed(Book(SWITCH, switches=()), request), ())
            self.assertEqual(crossed(Book(SWITCH, starts=()), request), ())
        book, request = many_nodes()
        self.assertEqual(crossed(book.starting(), request), ())
        self.assertEqual(crossed(Book(book.settings, switches=()), request), ())

    def test_behind_a_loop(self):
        wait = Request(SWITCH, (("ask", "a", (0, 1)), ("do", "x", 2), ("end",)))
        book = Book(SWITCH, starts=((0,),))
        self.assertEqual(crossed(book, wait), (1, 2))
        self.assertEqual(crossed(book, wait.with_modes(("met",))), (1, 2))
        self.assertEqual(crossed(book, wait.with_modes(("begin",))), ())

    def test_random_requests(self):
        some = 0
        for book, request in oracle.random_cases(300, 43):
            still = Book(book.settings, starts=book.starts, switches=())
            reached = {node[0] for node in oracle.nodes(oracle.all_states(book, request))}
            without = {node[0] for node in oracle.nodes(oracle.all_states(still, request))}
            self.assertEqual(crossed(book, request), tuple(sorted(reached - without)))
            some += reached != without
        self.assertGreater(some, 10)


class ConventionsTest(Checks):

    def test_names_of_parameters(self):
        node = (0, (0,), NONE, 0, marks((0, 1), (1, 0)))
        self.assertEqual(start_nodes(request=LIVE, book=BOOK), start_nodes(BOOK, LIVE))
        self.assertIs(need_node(thing=node, request=LIVE, book=BOOK), node)
        self.assertEqual(behind(node=node, request=LIVE, book=BOOK), behind(BOOK, LIVE, node))
        self.assertIs(is_torn_node(node=node, book=BOOK, request=LIVE), False)
        self.assertEqual(table(request=LIVE, book=BOOK), table(BOOK, LIVE))
        self.assertEqual(crossed(request=LIVE, book=BOOK), ())

    def test_nothing_is_changed(self):
        book, request = Book(SWITCH), Request(SWITCH, TWICE, ("met",))
        for function in (start_nodes, table, crossed):
            self.assertEqual(function(book, request), function(book, request))
        node = [0, (0,), NONE, 0, ()]
        self.refused(BadNode, "place", "form", behind, book, request, node)
        self.assertEqual(node, [0, (0,), NONE, 0, ()])
        self.assertTrue(book == BOOK and request == MET)

    def test_functions_stand_in_this_file(self):
        for function in (start_nodes, need_node, behind, is_torn_node, table, crossed):
            self.assertEqual(function.__module__, tables.__name__)

    def test_a_torn_run_of_a_torn_node(self):
        run = ((0,), (GO, GO, ("to", (1,)), GO, GO, GO))
        self.assertIs(is_torn(BOOK, LIVE, run), True)
        self.assertIn((6, (1,), NONE, 0, ()), table(BOOK, LIVE))
        self.assertIs(is_torn_node(BOOK, LIVE, (6, (1,), NONE, 0, ())), True)


if __name__ == "__main__":
    unittest.main()
