"""midswitch/plans.py: windows, plans and waits, points [22] and [23], with the facts, and the conventions."""

import itertools
import random
import unittest

import oracle
from midswitch import plans
from midswitch.books import Book
from midswitch.errors import BadPlan, BadStanding, BadWindow, SwitchError, TooMany
from midswitch.plans import check_plan, is_safe, least_plan
from midswitch.requests import MODES, Request
from midswitch.settings import standings
from samples import GRID, PAIR, PLACES, SWITCH, TWICE, Checks, any_kind, without_tuples

NEAR = Book(PAIR)
EVERY = Book(PAIR, switches=tuple(itertools.permutations(GRID, 2)))
STILL = Book(PAIR, switches=())
BUY = Request(PAIR, PLACES)
PAY = Request.straight(PAIR, "pay")
FOREVER = Request(PAIR, (("ask", "price", (1, 2)), ("do", "low", 0), ("ask", "tax", (0, 2))))
ROUND = Book(PAIR, switches=(((0, 0), (1, 0)), ((0, 1), (0, 0)), ((1, 0), (1, 1)), ((1, 1), (0, 1))))
PRICE_FIRST = ((0, 0), (1, 0), (1, 1))
TAX_FIRST = ((0, 0), (0, 1), (1, 1))


class WindowTest(Checks):

    def safe(self, told, window, *requests, book=NEAR):
        self.assertIs(is_safe(book, requests or (BUY,), window), told)
        self.assertIs(oracle.is_safe(book, requests or (BUY,), window), told)

    def test_one_standing(self):
        for standing in GRID:
            for request in (BUY, PAY, FOREVER, BUY.keeping(price="met"), BUY.keeping(tax="begin")):
                self.safe(True, (standing,), request)
                self.safe(True, (standing,), request, book=STILL)

    def test_two_standings(self):
        for one, other in NEAR.switches:
            self.safe(True, (one, other))

    def test_the_documents_ways(self):
        self.safe(True, TAX_FIRST)
        self.safe(False, PRICE_FIRST)

    def test_a_longer_window_may_be_safe_where_a_shorter_one_is_not(self):
        self.safe(False, ((0, 0), (1, 1)), book=EVERY)
        self.safe(True, TAX_FIRST, book=EVERY)
        self.safe(True, ((0, 0), (0, 1), (0, 0), (0, 1), (1, 1)), book=EVERY)

    def test_several_times_one_standing(self):
        self.safe(True, ((0, 0), (1, 0), (0, 0), (1, 0)))
        self.safe(True, ((0, 0), (0, 1), (0, 0), (0, 1), (1, 1), (0, 1)))
        self.safe(False, ((0, 0), (1, 0), (0, 0), (1, 0), (1, 1), (1, 0)))
        # All four standings were lived through by those that began at the beginning, but not by the others.
        self.safe(False, ((0, 0), (0, 1), (0, 0), (1, 0), (1, 1)))
        self.safe(False, (((0, 0), (0, 1)) * 200 + PRICE_FIRST))
        self.safe(True, ((0, 0), (0, 1)) * 200 + ((1, 1), (0, 1)) * 200)

    def test_one_that_begins_in_the_middle(self):
        window = ((0, 1),) + PRICE_FIRST
        whole = Book(PAIR, starts=((0, 1),), switches=tuple(sorted(zip(window, window[1:]))))
        self.safe(False, window)
        self.safe(False, window, book=whole)
        twice = Request(SWITCH, TWICE)
        self.safe(False, ((0,), (1,), (0,)), twice, book=Book(SWITCH))
        self.safe(False, ((0,), (1,)), twice, book=Book(SWITCH))

    def test_one_that_begins_where_there_is_no_start(self):
        for starts in ((), ((1, 1),), ((0, 1), (1, 0))):
            self.safe(False, PRICE_FIRST, book=Book(PAIR, starts=starts))
            self.safe(True, TAX_FIRST, book=Book(PAIR, starts=starts))

    def test_one_that_ends_ahead_of_the_windows_end(self):
        self.safe(False, PRICE_FIRST + ((0, 1),))
        self.safe(False, PRICE_FIRST + ((0, 1), (0, 0), (0, 1), (1, 1)))

    def test_one_that_goes_on_at_any_moments(self):
        slow = Request(PAIR, (("do", "go", 1), ("ask", "price", (2, 3)), ("do", "low", 4), ("do", "high", 4),
                              ("do", "go", 5), ("ask", "tax", (6, 7)), ("do", "old", 8), ("do", "new", 8), ("end",)))
        self.safe(False, PRICE_FIRST, slow)
        self.safe(False, ((0, 0), (1, 0), (0, 0), (1, 0), (1, 1)), slow)
        self.safe(True, TAX_FIRST, slow)

    def test_one_that_never_ends(self):
        for window in (PRICE_FIRST, TAX_FIRST, PRICE_FIRST + ((0, 1), (0, 0))):
            self.safe(True, window, FOREVER)
            self.safe(window == TAX_FIRST, window, FOREVER, BUY)

    def test_one_that_ends_by_a_switch_alone(self):
        # Under no standing it ends, so it has no plain row, and is torn if it ends.
        maze = Request(PAIR, (("ask", "price", (0, 1)), ("ask", "price", (2, 1)), ("end",)))
        self.safe(True, ((0, 0), (1, 0)), maze)
        self.safe(False, ((1, 0), (0, 0), (1, 0), (0, 0)), maze)

    def test_one_to_three_requests(self):
        for many in (1, 2, 3):
            for requests in itertools.product((BUY, PAY, FOREVER), repeat=many):
                self.safe(BUY not in requests, PRICE_FIRST, *requests)
                self.safe(True, TAX_FIRST, *requests)

    def test_all_modes(self):
        told = {}
        for modes in itertools.product(MODES, repeat=2):
            for window in (PRICE_FIRST, TAX_FIRST, PRICE_FIRST[::-1], TAX_FIRST[::-1]):
                told[modes, window] = is_safe(NEAR, (BUY.with_modes(modes),), window)
                self.safe(told[modes, window], window, BUY.with_modes(modes))
        for window in (PRICE_FIRST, TAX_FIRST, PRICE_FIRST[::-1], TAX_FIRST[::-1]):
            self.assertIs(told[("begin", "begin"), window], True)
        self.assertIs(told[("live", "begin"), PRICE_FIRST], True)
        self.assertIs(told[("live", "begin"), TAX_FIRST], False)
        self.assertIs(told[("met", "live"), PRICE_FIRST], False)

    def test_each_part_of_a_safe_window_is_safe(self):
        some = 0
        for rng, book, requests in oracle.asking_cases(150, 91):
            window = oracle.random_window(rng, book, 0.85)
            if is_safe(book, requests, window):
                for first in range(len(window)):
                    for behind in range(first + 1, len(window) + 1):
                        self.assertIs(is_safe(book, requests, window[first:behind]), True)
                        some += 1
        self.assertGreater(some, 100)

    def test_random_windows(self):
        told = {True: 0, False: 0}
        cases = list(oracle.asking_cases(250, 92))
        cases += [(random.Random(at), book, (request,)) for at, (book, request)
                  in enumerate(oracle.random_cases(150, 93))]
        for rng, book, requests in cases:
            window = oracle.random_window(rng, book, 0.8)
            self.safe(is_safe(book, requests, window), window, *requests, book=book)
            told[is_safe(book, requests, window)] += 1
        self.assertGreater(min(told.values()), 50)

    def test_a_book_of_twelve_standings(self):
        settings = (("a", 3), ("b", 2))
        book = Book(settings)
        request = Request(settings, (("ask", "a", (1, 2, 1, 2)), ("do", "x", 3), ("do", "y", 3),
                                     ("ask", "b", (4, 5, 4)), ("do", "x", 6), ("do", "y", 6), ("end",)))
        rng = random.Random(94)
        told = []
        for case in range(30):
            window = oracle.random_window(rng, book, 0.7)
            told.append(is_safe(book, (request,), window))
            self.safe(told[-1], window, request, book=book)
        self.assertEqual({True, False}, set(told))


class BadWindowTest(Checks):

    def wrong(self, place, window, book=NEAR):
        self.refused(BadWindow, "place", place, is_safe, book, (BUY,), window)

    def test_things_that_are_no_tuple(self):
        for thing in without_tuples(any_kind()) + [(), list(TAX_FIRST), "00", BUY, NEAR]:
            self.wrong(None, thing)

    def test_items_that_are_no_standing(self):
        for item in any_kind() + [(0, 2), (0,), (0, 0, 0), [0, 0], (True, 0), (0, -1), "00", ((0, 0), (0, 1))]:
            self.wrong(0, (item,))
            self.wrong(1, ((0, 0), item))
            self.wrong(2, ((0, 0), (0, 1), item, (1, 1)))

    def test_no_switch_leads_there(self):
        self.wrong(1, ((0, 0), (1, 1)))
        self.wrong(1, ((0, 0), (0, 0)))
        self.wrong(3, TAX_FIRST + ((0, 0),))
        self.wrong(1, ((0, 0), (0, 1)), STILL)
        one_way = Book(PAIR, switches=(((0, 0), (0, 1)),))
        self.assertIs(is_safe(one_way, (BUY,), ((0, 0), (0, 1))), True)
        self.wrong(1, ((0, 1), (0, 0)), one_way)

    def test_the_first_one_of_several(self):
        self.wrong(1, ((0, 0), (1, 1), None, (0, 0)))
        self.wrong(0, (None, None))
        self.wrong(2, ((0, 0), (1, 0), (0, 1), [0, 0]))
        self.wrong(2, ((0, 0), (1, 0), (2, 0), (0, 1)))

    def test_it_is_wrong_where_it_would_not_be_safe_either(self):
        self.wrong(3, PRICE_FIRST + ((0, 0),))

    def test_it_is_a_switch_error(self):
        self.assertTrue(issubclass(BadWindow, SwitchError) and issubclass(BadPlan, SwitchError))


class CheckPlanTest(Checks):

    def wrong(self, place, plan, book=NEAR, requests=(BUY,)):
        self.refused(BadPlan, "place", place, check_plan, book, requests, plan)

    def right(self, many, plan, book=NEAR, requests=(BUY,)):
        waits = check_plan(book, requests, plan)
        self.assertEqual(waits, many)
        self.assertIs(type(waits), int)

    def test_how_many_waits(self):
        self.right(0, (TAX_FIRST,))
        self.right(1, (PRICE_FIRST[:2], PRICE_FIRST[1:]))
        self.right(1, (TAX_FIRST[:2], TAX_FIRST[1:]))
        self.right(2, (PRICE_FIRST[:2], PRICE_FIRST[1:], ((1, 1), (1, 0))))
        self.right(3, (((0, 0),), ((0, 0),), ((0, 0), (1, 0)), ((1, 0),)))

    def test_from_a_standing_to_itself(self):
        for standing in GRID:
            self.right(0, ((standing,),))
            self.right(1, ((standing,), (standing,)))
        self.right(0, (((0, 0), (0, 1), (0, 0)),))
        self.right(1, (((0, 0), (1, 0)), ((1, 0), (0, 0))))

    def test_things_that_are_no_tuple(self):
        for thing in without_tuples(any_kind()) + [(), [TAX_FIRST], BUY]:
            self.wrong(None, thing)

    def test_items_that_are_no_window(self):
        for item in any_kind() + [(), list(TAX_FIRST), ((0, 0), (1, 1)), ((0, 0), (0, 0)), ((0, 2),), (0, 0)]:
            self.wrong(0, (item,))
            self.wrong(1, (TAX_FIRST, item, TAX_FIRST))
            self.wrong(2, (((0, 0),), ((0, 0), (0, 1)), item))
        self.wrong(0, TAX_FIRST)
        self.wrong(0, (TAX_FIRST[:2],), STILL)

    def test_one_that_does_not_begin_where_the_one_before_it_ends(self):
        self.wrong(1, (((0, 0), (0, 1)), ((1, 1),)))
        self.wrong(1, (((0, 0), (0, 1)), ((0, 0), (0, 1))))
        self.wrong(2, (((0, 0),), ((0, 0),), ((0, 1),)))

    def test_one_that_is_not_safe(self):
        self.wrong(0, (PRICE_FIRST,))
        self.wrong(1, (((0, 0),), PRICE_FIRST))
        self.right(0, (PRICE_FIRST,), requests=(PAY, FOREVER))
        self.wrong(0, (PRICE_FIRST,), requests=(PAY, FOREVER, BUY))
        self.right(0, (PRICE_FIRST,), requests=(BUY.keeping(tax="begin"),))

    def test_the_first_one_that_is_wrong_in_any_way(self):
        self.wrong(0, (PRICE_FIRST, None, ((0, 0),)))
        self.wrong(1, (TAX_FIRST, ((0, 0),), PRICE_FIRST, None))
        self.wrong(1, (TAX_FIRST, None, PRICE_FIRST))
        self.wrong(1, (((0, 0),), PRICE_FIRST, ((0, 0),)))
        self.wrong(2, (((0, 0),), TAX_FIRST, PRICE_FIRST, PRICE_FIRST))

    def test_a_book_of_more_than_six_standings(self):
        settings = (("a", 2), ("b", 2))
        book = Book(settings)
        self.right(1, (((0, 0), (0, 1)), ((0, 1), (0, 2))), book, (Request.straight(settings, "x"),))


class LeastPlanTest(Checks):

    def found(self, cost, book, requests, first, last):
        plan = least_plan(book, requests, first, last)
        self.assertEqual((len(plan) - 1, sum([len(window) - 1 for window in plan])), cost)
        self.right(book, requests, first, last, plan)

    def right(self, book, requests, first, last, plan):
        self.assertEqual(check_plan(book, requests, plan), len(plan) - 1)
        self.assertEqual((plan[0][0], plan[-1][-1]), (first, last))
        for window in plan:
            self.assertIs(oracle.is_safe(book, requests, window), True)

    def test_the_documents_example(self):
        self.assertEqual(least_plan(NEAR, (BUY,), (0, 0), (1, 1)), (TAX_FIRST,))

    def test_with_waits(self):
        one_way = Book(PAIR, switches=(((0, 0), (1, 0)), ((1, 0), (1, 1))))
        self.assertEqual(least_plan(one_way, (BUY,), (0, 0), (1, 1)), (PRICE_FIRST[:2], PRICE_FIRST[1:]))
        self.found((0, 2), one_way, (PAY,), (0, 0), (1, 1))
        self.found((0, 2), one_way, (BUY.keeping(tax="begin"), PAY), (0, 0), (1, 1))
        self.found((1, 2), one_way, (PAY, BUY, FOREVER), (0, 0), (1, 1))

    def test_fewer_waits_come_before_fewer_switches(self):
        self.found((0, 2), EVERY, (BUY,), (0, 0), (1, 1))
        self.found((0, 1), EVERY, (PAY,), (0, 0), (1, 1))
        detour = Book(PAIR, switches=(((0, 0), (0, 1)), ((0, 0), (1, 0)), ((0, 1), (1, 1)), ((1, 0), (1, 1))))
        other = Request(PAIR, (("ask", "tax", (1, 2)), ("do", "old", 3), ("do", "new", 3), ("ask", "price", (4, 5)),
                               ("do", "low", 6), ("do", "high", 6), ("end",)))
        self.found((0, 2), detour, (other,), (0, 0), (1, 1))
        self.found((1, 2), detour, (other, BUY), (0, 0), (1, 1))

    def test_more_switches_rather_than_a_wait(self):
        settings = (("price", 1), ("tax", 2))
        book = Book(settings, switches=(((0, 0), (0, 1)), ((0, 0), (1, 0)), ((0, 1), (0, 2)), ((0, 2), (1, 2)),
                                        ((1, 0), (1, 2))))
        request = Request(settings, PLACES[:3] + (("ask", "tax", (4, 4, 5)),) + PLACES[4:])
        short = (((0, 0), (1, 0)), ((1, 0), (1, 2)))
        self.assertEqual(check_plan(book, (request,), short), 1)
        self.assertIs(is_safe(book, (request,), ((0, 0), (1, 0), (1, 2))), False)
        self.assertEqual(least_plan(book, (request,), (0, 0), (1, 2)), (((0, 0), (0, 1), (0, 2), (1, 2)),))
        self.assertEqual(least_plan(book & Book(settings, switches=tuple(itertools.pairwise(
            ((0, 0), (1, 0), (1, 2))))), (request,), (0, 0), (1, 2)), short)

    def test_the_switches_of_all_windows_count(self):
        # Of two standings at which one can wait, the nearer one is not the one that was found last.
        settings = (("a", 2), ("b", 1))
        book = Book(settings, switches=(
            ((0, 0), (1, 0)), ((0, 1), (1, 1)), ((1, 0), (0, 1)), ((1, 0), (2, 0)), ((1, 1), (1, 0)), ((1, 1), (2, 1)),
            ((2, 0), (0, 0)), ((2, 0), (1, 0)), ((2, 0), (1, 1)), ((2, 1), (0, 0)), ((2, 1), (0, 1))))
        request = Request(settings, (("ask", "b", (1, 2)), ("do", "u", 3), ("do", "v", 3), ("ask", "b", (4, 5)),
                                     ("do", "w", 6), ("do", "x", 6), ("ask", "a", (7, 8, 7)), ("do", "y", 9),
                                     ("do", "z", 9), ("end",)), ("met", "met"))
        self.assertEqual(oracle.least_costs(book, (request,), (2, 1), (2, 0), 4), (1, 3))
        self.found((1, 3), book, (request,), (2, 1), (2, 0))
        self.assertEqual(check_plan(book, (request,), (((2, 1), (0, 1), (1, 1), (1, 0)), ((1, 0), (2, 0)))), 1)

    def test_a_longer_window_without_a_wait(self):
        self.found((0, 2), Book(PAIR, switches=(((0, 0), (0, 1)), ((0, 0), (1, 0)), ((0, 0), (1, 1)),
                                                ((0, 1), (1, 1)), ((1, 0), (1, 1)))), (BUY,), (0, 0), (1, 1))

    def test_several_waits(self):
        line = (("a", 3),)
        book = Book(line)

        def twice(first, second):
            return Request(line, (("ask", "a", first), ("do", "x", 3), ("do", "y", 3), ("ask", "a", second),
                                  ("do", "u", 6), ("do", "v", 6), ("end",)))
        # Torn where the first answer changes and then the second one: here at 0, 1, 2, and there at 1, 2, 3.
        here, there = twice((1, 2, 2, 1), (4, 4, 5, 5)), twice((1, 1, 2, 2), (4, 4, 4, 5))
        self.assertEqual(least_plan(book, (here,), (0,), (3,)), (((0,), (1,)), ((1,), (2,), (3,))))
        self.assertEqual(least_plan(book, (there,), (0,), (3,)), (((0,), (1,), (2,)), ((2,), (3,))))
        for requests in ((here, there), (there, here), (there, here.keeping(a="met"), here)):
            self.found((2, 3), book, requests, (0,), (3,))
        self.found((0, 3), book, (here.keeping(a="met"), there.keeping(a="begin")), (0,), (3,))
        self.found((0, 1), book, (here, there), (1,), (2,))

    def test_no_plan(self):
        self.assertIsNone(least_plan(STILL, (BUY,), (0, 0), (1, 1)))
        one_way = Book(PAIR, switches=(((0, 0), (1, 0)), ((1, 0), (1, 1))))
        self.assertIsNone(least_plan(one_way, (BUY,), (1, 1), (0, 0)))
        self.assertIsNone(least_plan(one_way, (BUY,), (0, 0), (0, 1)))
        # The one switch that leads there makes torn what asks twice.
        twice = Request(SWITCH, TWICE)
        self.assertIsNone(least_plan(Book(SWITCH), (twice,), (0,), (1,)))
        self.assertEqual(least_plan(Book(SWITCH), (twice.keeping(a="met"),), (0,), (1,)), (((0,), (1,)),))
        direct = Book(PAIR, switches=(((0, 0), (1, 1)),))
        self.assertIsNone(least_plan(direct, (BUY,), (0, 0), (1, 1)))

    def test_from_a_standing_to_itself(self):
        for book in (NEAR, STILL, EVERY):
            for standing in GRID:
                self.assertEqual(least_plan(book, (BUY, PAY), standing, standing), ((standing,),))

    def test_starts_do_not_matter(self):
        for starts in ((), ((0, 1),)):
            book = Book(PAIR, starts=starts, switches=(((0, 0), (1, 0)), ((1, 0), (1, 1))))
            self.found((1, 2), book, (BUY,), (0, 0), (1, 1))

    def test_a_slow_search_finds_no_better_one(self):
        costs = {}
        cases = list(oracle.asking_cases(120, 95))
        cases += [(rng, ROUND, requests) for rng, book, requests in oracle.asking_cases(60, 96, PAIR)]
        for rng, book, requests in cases:
            first, last = rng.choice(list(standings(book.settings))), rng.choice(list(standings(book.settings)))
            plan = least_plan(book, requests, first, last)
            slow = oracle.least_costs(book, requests, first, last, 4)
            if plan is None:
                self.assertIsNone(slow)
                cost = None
            else:
                self.right(book, requests, first, last, plan)
                cost = (len(plan) - 1, sum([len(window) - 1 for window in plan]))
                self.assertTrue(cost[1] > 4 if slow is None else cost <= slow, (cost, slow))
            costs[cost] = costs.get(cost, 0) + 1
        for cost in (None, (0, 0), (0, 1), (0, 2), (1, 2)):
            self.assertGreater(costs.get(cost, 0), 1, costs)

    def test_things_that_are_no_standings(self):
        for thing in any_kind() + [(0, 2), (True, 0), [0, 0], (0,), (0, 0, 0)]:
            for first, last in ((thing, (0, 0)), ((0, 0), thing)):
                with self.assertRaises(BadStanding) as caught:
                    least_plan(NEAR, (BUY,), first, last)
                self.assertIs(caught.exception.value, thing)

    def test_the_error_that_is_listed_first(self):
        self.refused(BadStanding, "value", (0, 2), least_plan, NEAR, (BUY,), (0, 2), (0, 3))
        settings = (("a", 2), ("b", 2))
        book, request = Book(settings), Request.straight(settings, "x")
        self.refused(BadStanding, "value", (3, 0), least_plan, book, (request,), (3, 0), (0, 3))
        self.refused(BadStanding, "value", (0, 3), least_plan, book, (request,), (0, 0), (0, 3))
        self.refused(TooMany, "most", 6, least_plan, book, (request,), (0, 0), (0, 1))
        self.refused(TooMany, "most", 6, least_plan, book, (request,), (0, 0), (0, 0))

    def test_six_standings_and_more(self):
        for settings, good in (((("a", 2), ("b", 1)), True), ((("b", 1), ("a", 2)), True), ((("a", 3), ("b", 1)), False),
                               ((("a", 1), ("b", 1), ("c", 1)), False), ((("a", 3), ("b", 2)), False)):
            book, request = Book(settings), Request.straight(settings, "x")
            first, last = (0,) * len(settings), tuple([most for name, most in settings])
            if good:
                self.found((0, 3), book, (request,), first, last)
            else:
                self.refused(TooMany, "most", 6, least_plan, book, (request,), first, last)

    def test_six_standings_at_random(self):
        some = 0
        for rng, book, requests in oracle.asking_cases(40, 97, (("a", 2), ("b", 1))):
            first, last = rng.choice(list(standings(book.settings))), rng.choice(list(standings(book.settings)))
            plan = least_plan(book, requests[:1], first, last)
            slow = oracle.least_costs(book, requests[:1], first, last, 2)
            if plan is not None:
                self.right(book, requests[:1], first, last, plan)
                cost = (len(plan) - 1, sum([len(window) - 1 for window in plan]))
                self.assertTrue(cost[1] > 2 if slow is None else cost <= slow, (cost, slow))
                some += 1
            else:
                self.assertIsNone(slow)
        self.assertGreater(some, 10)


class ConventionsTest(Checks):

    def test_names_of_parameters(self):
        self.assertIs(is_safe(window=TAX_FIRST, requests=(BUY,), book=NEAR), True)
        self.assertEqual(check_plan(plan=(TAX_FIRST,), requests=(BUY,), book=NEAR), 0)
        self.assertEqual(least_plan(last=(1, 1), first=(0, 0), requests=(BUY,), book=NEAR), (TAX_FIRST,))

    def test_equal_calls_return_equal_results(self):
        for case in range(2):
            self.assertIs(is_safe(Book(PAIR), (Request(PAIR, PLACES),), PRICE_FIRST), False)
            self.assertEqual(least_plan(EVERY, (BUY,), (0, 0), (1, 1)), least_plan(EVERY, (BUY,), (0, 0), (1, 1)))
        self.assertTrue(NEAR == Book(PAIR) and BUY == Request(PAIR, PLACES))

    def test_kinds(self):
        plan = least_plan(NEAR, (BUY,), (0, 0), (1, 1))
        self.assertIsInstance(plan, tuple)
        self.assertTrue(all([isinstance(window, tuple) for window in plan]))

    def test_functions_stand_in_this_file(self):
        for function in (is_safe, check_plan, least_plan):
            self.assertEqual(function.__module__, plans.__name__)


if __name__ == "__main__":
    unittest.main()
