"""midswitch/live.py: settings that go on, with requests under way, points [13] to [16], and the conventions."""

import random
import unittest

import oracle
from midswitch import live as module
from midswitch.books import Book
from midswitch.errors import BadNumber, BadStanding, SwitchError, TooMany
from midswitch.live import Live, tried
from midswitch.requests import MODES, Request
from samples import GRID, OTHER_PAIR, PAIR, PLACES, SWITCH, TWICE, Checks, any_kind

BOOK = Book(PAIR)
BUY = Request(PAIR, PLACES)
PAY = Request.straight(PAIR, "pay")
ONE = Book(SWITCH)
END = Request(SWITCH, (("end",),))
CIRCLE = Request(SWITCH, (("ask", "a", (1, 2)), ("ask", "a", (0, 2)), ("do", "x", 3), ("end",)))


class Boom(Exception):
    pass


def shown(live):
    """All that can be read of a live."""
    return (live.book, live.standing, live.going, live.ended, len(live))


def part_of_the_way():
    """A live with one request that was torn, one under way, and one that has just begun."""
    live = Live(BOOK, (0, 0))
    for number in (live.begin(BUY), live.begin(BUY.keeping(tax="met"))):
        live(number)
    live.switch((1, 0))
    live.switch((1, 1))
    live(0)
    live.go(0)
    live.begin(PAY)
    return live


class LiveTest(Checks):

    def test_a_new_one(self):
        for standing in GRID:
            live = Live(BOOK, standing)
            self.assertIs(live.book, BOOK)
            self.assertEqual(shown(live), (BOOK, standing, (), [], 0))

    def test_a_standing_that_is_no_start(self):
        live = Live(Book(PAIR, starts=()), (0, 1))
        self.assertEqual(live.begin(BUY), 0)
        self.assertEqual(live(0), "low")

    def test_things_that_are_no_standing(self):
        for thing in any_kind() + [(0, 2), (True, 0), [0, 0], (0,), (0, 0, 0), (-1, 0)]:
            with self.assertRaises(BadStanding) as caught:
                Live(BOOK, thing)
            self.assertIs(caught.exception.value, thing)

    def test_properties_cannot_be_assigned(self):
        live = Live(BOOK, (0, 0))
        for name in ("book", "standing", "going", "ended"):
            self.assertIsInstance(vars(Live)[name], property)
            with self.assertRaises(AttributeError):
                setattr(live, name, None)

    def test_methods_stand_in_the_class(self):
        for name in ("__init__", "__len__", "__eq__", "book", "standing", "going", "ended", "begin", "go", "switch",
                     "__call__", "trial"):
            self.assertIn(name, vars(Live))
        self.assertEqual((Live.__module__, tried.__module__), (module.__name__, module.__name__))


class BeginTest(Checks):

    def test_numbers(self):
        live = Live(BOOK, (0, 0))
        self.assertEqual([live.begin(BUY), live.begin(PAY), live.begin(BUY)], [0, 1, 2])
        self.assertEqual(live.going, (0, 1, 2))
        live.go(1)
        live.go(1)
        self.assertEqual(live.going, (0, 2))
        self.assertEqual(live.begin(PAY), 3)
        self.assertEqual(live.going, (0, 2, 3))
        self.assertIsInstance(live.going, tuple)

    def test_values_that_are_no_request_of_the_books_settings(self):
        live = Live(BOOK, (0, 0))
        others = [Request(SWITCH, TWICE), Request(OTHER_PAIR, (("end",),)), Request(PAIR[::-1], (("end",),)),
                  BOOK, live, Request, PLACES]
        for thing in any_kind() + others:
            with self.assertRaises(BadNumber) as caught:
                live.begin(thing)
            self.assertIs(caught.exception.value, thing)
        self.assertEqual(shown(live), (BOOK, (0, 0), (), [], 0))
        self.assertEqual(live.begin(Request(tuple(list(PAIR)), (("end",),))), 0)


class GoTest(Checks):

    def test_what_it_returns(self):
        live = Live(BOOK, (0, 1))
        live.begin(BUY)
        self.assertEqual([live.go(0) for step in range(5)], [None, "low", None, "new", ("low", "new")])
        self.assertEqual(live.ended, [(0, ("low", "new"), False)])
        self.assertEqual(live.going, ())

    def test_an_end_at_once(self):
        live = Live(ONE, (0,))
        live.begin(END)
        self.assertEqual(live.go(0), ())
        self.assertEqual(live.ended, [(0, (), False)])

    def test_several_at_once(self):
        live = Live(BOOK, (0, 0))
        for request in (BUY, PAY, BUY):
            live.begin(request)
        self.assertEqual([live.go(number) for number in (0, 1, 2, 0, 2, 1)],
                         [None, "pay", None, "low", "low", ("pay",)])
        live.switch((0, 1))
        self.assertEqual([live(number) for number in (2, 0, 2, 0)], ["new", "new", ("low", "new"), ("low", "new")])
        self.assertEqual(live.ended, [(1, ("pay",), False), (2, ("low", "new"), False), (0, ("low", "new"), False)])

    def test_values_that_are_no_number_of_one_under_way(self):
        live = part_of_the_way()
        self.assertEqual(live.going, (1, 2))
        before = part_of_the_way()
        for thing in any_kind() + [0, 3, -1, "1", (1,), [1], BUY, live]:
            if thing not in (1, 2) or isinstance(thing, bool):
                for function in (live.go, live):
                    with self.assertRaises(BadNumber) as caught:
                        function(thing)
                    self.assertIs(caught.exception.value, thing)
        self.assertTrue(live == before)

    def test_true_is_no_number(self):
        live = Live(BOOK, (0, 0))
        live.begin(BUY)
        live.begin(BUY)
        for thing in (True, False):
            self.refused(BadNumber, "value", thing, live.go, thing)
            self.refused(BadNumber, "value", thing, live, thing)
        self.assertIsNone(live.go(1))

    def test_modes_while_settings_are_switched(self):
        for mode, deeds in (("live", ("y", "u")), ("met", ("y", "v")), ("begin", ("x", "u"))):
            live = Live(ONE, (0,))
            live.begin(Request(SWITCH, TWICE, (mode,)))
            live.switch((1,))
            first = live(0)
            live.switch((0,))
            second = live(0)
            self.assertEqual((first, second), deeds)
            self.assertEqual(live.go(0), deeds)
            # It lived through both standings, so it is torn only if neither of them has this row.
            self.assertEqual(live.ended, [(0, deeds, mode == "live")])

    def test_what_was_met_is_kept(self):
        live = Live(ONE, (0,))
        live.begin(Request(SWITCH, TWICE, ("met",)))
        self.assertIsNone(live.go(0))
        live.switch((1,))
        self.assertEqual([live(0) for step in range(3)], ["x", "u", ("x", "u")])

    def test_whether_it_was_torn(self):
        for ways, torn in ((((1, 0), (1, 1)), True), (((0, 1), (1, 1)), False), ((), False), (((1, 0),), False)):
            live = Live(BOOK, (0, 0))
            live.begin(BUY)
            live(0)
            for standing in ways:
                live.switch(standing)
            live(0)
            self.assertEqual(live(0), live.ended[0][1])
            self.assertEqual([told for number, row, told in live.ended], [torn])
            self.assertIs(live.ended[0][2], torn)

    def test_what_was_switched_before_it_began_was_not_lived_through(self):
        live = Live(BOOK, (0, 1))
        live.switch((0, 0))
        live.begin(BUY)
        live(0)
        live.switch((1, 0))
        live.switch((1, 1))
        live(0)
        live(0)
        self.assertEqual(live.ended, [(0, ("low", "new"), True)])

    def test_what_is_switched_at_its_end_is_lived_through(self):
        live = part_of_the_way()
        self.assertEqual(live.ended, [(0, ("low", "new"), True)])
        live(1)
        live.switch((0, 1))
        live.go(1)
        self.assertEqual(live.ended[1:], [(1, ("low", "new"), False)])

    def test_a_row_that_no_standing_has(self):
        live = Live(ONE, (0,))
        live.begin(Request(SWITCH, (("ask", "a", (0, 1)), ("do", "x", 2), ("ask", "a", (3, 0)), ("end",))))
        live.switch((1,))
        live(0)
        live.switch((0,))
        self.assertEqual(live(0), ("x",))
        self.assertEqual(live.ended, [(0, ("x",), True)])


class SwitchTest(Checks):

    def test_how_many(self):
        live = Live(BOOK, (0, 0))
        for many, standing in enumerate(((0, 1), (1, 1), (0, 1), (0, 0)), start=1):
            self.assertIsNone(live.switch(standing))
            self.assertEqual((live.standing, len(live)), (standing, many))

    def test_things_to_which_no_switch_leads(self):
        live = Live(BOOK, (0, 0))
        for thing in any_kind() + [(0, 0), (1, 1), (0, 2), (True, 0), (0, True), [0, 1], (0,), (1, 0, 0), BOOK]:
            with self.assertRaises(BadStanding) as caught:
                live.switch(thing)
            self.assertIs(caught.exception.value, thing)
        self.assertEqual((live.standing, len(live)), ((0, 0), 0))

    def test_switches_of_the_book_alone(self):
        live = Live(Book(PAIR, switches=(((0, 0), (1, 1)),)), (0, 0))
        self.refused(BadStanding, "value", (0, 1), live.switch, (0, 1))
        live.switch((1, 1))
        for standing in GRID:
            self.refused(BadStanding, "value", standing, live.switch, standing)
        self.assertTrue(issubclass(BadStanding, SwitchError) and issubclass(BadNumber, SwitchError))


class LiveOnTest(Checks):

    def test_until_the_next_deed_or_the_end(self):
        live = Live(BOOK, (1, 0))
        live.begin(BUY)
        self.assertEqual([live(0) for step in range(3)], ["high", "old", ("high", "old")])
        self.assertEqual(live.ended, [(0, ("high", "old"), False)])
        self.refused(BadNumber, "value", 0, live, 0)

    def test_asks_ahead_of_a_deed_and_of_an_end(self):
        fifteen = [("ask", "a", (at + 1, at + 1)) for at in range(15)]
        for last, told in ((("end",), ()), (("do", "x", 15), "x")):
            live = Live(ONE, (0,))
            live.begin(Request(SWITCH, (*fifteen, last)))
            self.assertEqual(live(0), told)

    def test_a_hundred_asks(self):
        live = Live(ONE, (0,))
        live.begin(CIRCLE)
        same = Live(ONE, (0,))
        same.begin(CIRCLE)
        self.refused(TooMany, "most", 100, live, 0)
        self.assertTrue(live == same)
        self.assertIsNone(live.go(0))
        self.refused(TooMany, "most", 100, live, 0)
        same.go(0)
        self.assertTrue(live == same)
        live.switch((1,))
        self.assertEqual([live(0), live(0)], ["x", ("x",)])

    def test_a_hundred_asks_have_no_other_effect(self):
        for mode in MODES:
            request = CIRCLE.keeping(a=mode)
            live, same = Live(ONE, (0,)), Live(ONE, (0,))
            for each in (live, same):
                each.begin(request)
            self.refused(TooMany, "most", 100, live, 0)
            self.assertTrue(live == same)
            # What it would have met was not read.
            live.switch((1,))
            if mode == "begin":
                self.refused(TooMany, "most", 100, live, 0)
            else:
                self.assertEqual(live(0), "x")

    def test_asks_that_go_on_for_ever(self):
        live = Live(ONE, (1,))
        live.begin(Request(SWITCH, (("do", "x", 1), ("ask", "a", (1, 1)))))
        self.assertEqual(live(0), "x")
        self.refused(TooMany, "most", 100, live, 0)
        self.assertEqual([live.go(0) for step in range(150)], [None] * 150)
        self.refused(TooMany, "most", 100, live, 0)
        self.assertEqual(live.going, (0,))

    def test_deeds_that_go_on_for_ever(self):
        live = Live(ONE, (1,))
        live.begin(Request(SWITCH, (("do", "x", 1), ("ask", "a", (1, 0)))))
        self.assertEqual([live(0) for step in range(300)], ["x"] * 300)

    def test_the_error_that_is_listed_first(self):
        live = Live(ONE, (0,))
        live.begin(CIRCLE)
        self.refused(BadNumber, "value", 1, live, 1)


class EqualTest(Checks):

    def equal(self, told, one, other):
        self.assertIs(one == other, told)
        self.assertIs(other == one, told)
        self.assertIs(one != other, not told)
        self.assertIs(other != one, not told)

    def test_the_same(self):
        self.equal(True, Live(BOOK, (0, 0)), Live(Book(PAIR), (0, 0)))
        self.equal(True, part_of_the_way(), part_of_the_way())
        live = part_of_the_way()
        self.equal(True, live, live)

    def test_the_book(self):
        for other in (Book(PAIR, starts=()), Book(PAIR, switches=()), Book(OTHER_PAIR), Book(PAIR[::-1])):
            self.equal(False, Live(BOOK, (0, 0)), Live(other, (0, 0)))

    def test_the_standing(self):
        self.equal(False, Live(BOOK, (0, 0)), Live(BOOK, (0, 1)))

    def test_how_many_switches(self):
        one, other = Live(BOOK, (0, 0)), Live(BOOK, (0, 0))
        one.switch((0, 1))
        one.switch((0, 0))
        self.equal(False, one, other)
        other.switch((1, 0))
        self.equal(False, one, other)
        other.switch((0, 0))
        # Which ones they were does not matter where nobody lived through them.
        self.equal(True, one, other)

    def test_what_was_lived_through(self):
        one, other, third = [Live(BOOK, (0, 0)) for live in range(3)]
        for live in (one, other, third):
            live.begin(BUY)
        for live, way in ((one, ((0, 1), (0, 0), (1, 0), (0, 0))), (other, ((1, 0), (0, 0), (0, 1), (0, 0))),
                          (third, ((1, 0), (0, 0), (1, 0), (0, 0)))):
            for standing in way:
                live.switch(standing)
        self.equal(True, one, other)
        self.equal(False, one, third)

    def test_when_it_began_does_not_matter_otherwise(self):
        one, other = Live(BOOK, (0, 0)), Live(BOOK, (0, 0))
        one.begin(BUY)
        for live in (one, other):
            live.switch((0, 1))
            live.switch((0, 0))
            if live is other:
                live.begin(BUY)
            live.switch((0, 1))
            live.switch((0, 0))
        self.equal(True, one, other)

    def test_one_thing_otherwise_of_a_request_under_way(self):
        def begun(request, *steps):
            live = Live(ONE, (0,))
            live.begin(request)
            for step in steps:
                live.go(0) if step == "go" else live.switch((step,))
            return live
        twice = Request(SWITCH, TWICE)
        self.equal(True, begun(twice, "go"), begun(Request(SWITCH, TWICE, ("live",)), "go"))
        self.equal(False, begun(twice), begun(twice, "go"))
        self.equal(False, begun(twice), begun(twice.keeping(a="met")))
        self.equal(False, begun(twice), begun(Request(SWITCH, TWICE + (("end",),))))
        # The same place and row, and another value kept.
        joined = Request(SWITCH, (("ask", "a", (1, 1)), ("do", "x", 2), ("end",)), ("met",))
        self.equal(False, begun(joined, "go", 1, 0), begun(joined, 1, "go", 0))
        self.equal(True, begun(joined.keeping(a="live"), "go", 1, 0), begun(joined.keeping(a="live"), 1, "go", 0))
        # The same place, and another row so far.
        self.equal(False, begun(twice, "go", "go", 1, 0), begun(twice, 1, "go", "go", 0))
        loop = Request(SWITCH, (("do", "x", 0),))
        self.equal(False, begun(loop, "go"), begun(loop, "go", "go"))

    def test_by_number(self):
        one, other = Live(BOOK, (0, 0)), Live(BOOK, (0, 0))
        for live, requests in ((one, (BUY, PAY)), (other, (PAY, BUY))):
            for request in requests:
                live.begin(request)
        self.equal(False, one, other)
        one.begin(PAY)
        other.begin(PAY)
        self.equal(False, one, other)

    def test_how_many_began(self):
        one, other = Live(BOOK, (0, 0)), Live(BOOK, (0, 0))
        one.begin(BUY)
        self.equal(False, one, other)
        other.begin(BUY)
        self.equal(True, one, other)
        other.begin(BUY)
        self.equal(False, one, other)

    def test_which_have_ended(self):
        end = Request(PAIR, (("end",),))
        one, other = Live(BOOK, (0, 0)), Live(BOOK, (0, 0))
        for live in (one, other):
            live.begin(end)
            live.begin(end)
        one.go(0)
        self.equal(False, one, other)
        other.go(1)
        self.equal(False, one, other)
        one.go(1)
        other.go(0)
        self.equal(False, one, other)
        self.assertEqual((one.ended, other.ended), ([(0, (), False), (1, (), False)], [(1, (), False), (0, (), False)]))

    def test_the_rows_of_those_that_have_ended(self):
        one, other = Live(BOOK, (0, 0)), Live(BOOK, (0, 0))
        for live, name in ((one, "pay"), (other, "send")):
            live.begin(Request.straight(PAIR, name))
            live(0)
            live(0)
        self.equal(False, one, other)

    def test_whether_those_that_have_ended_were_torn(self):
        lives = []
        for way in (((1, 0), (1, 1)), ((0, 1), (1, 1))):
            live = Live(BOOK, (0, 0))
            live.begin(BUY)
            live(0)
            for standing in way:
                live.switch(standing)
            live(0)
            live(0)
            lives.append(live)
        self.assertEqual([live.ended for live in lives], [[(0, ("low", "new"), True)], [(0, ("low", "new"), False)]])
        self.equal(False, *lives)

    def test_which_request_has_ended_does_not_matter(self):
        one, other = Live(BOOK, (0, 0)), Live(BOOK, (0, 0))
        for live, request in ((one, PAY), (other, Request(PAIR, (("ask", "tax", (1, 1)), ("do", "pay", 2), ("end",))))):
            live.begin(request)
            live(0)
            live(0)
        self.equal(True, one, other)

    def test_values_of_other_kinds(self):
        live = Live(BOOK, (0, 0))
        for thing in any_kind() + [BOOK, BUY, (0, 0), Live, [], 0]:
            self.equal(False, live, thing)

    def test_other_operators(self):
        live = Live(BOOK, (0, 0))
        for other in (live, Live(BOOK, (0, 1)), BOOK, BUY, 1, (0, 0), None):
            for operator in (lambda one, two: one + two, lambda one, two: one & two, lambda one, two: one < two,
                             lambda one, two: one >= two, lambda one, two: one - two, lambda one, two: one | two):
                with self.assertRaises(TypeError):
                    operator(live, other)
                with self.assertRaises(TypeError):
                    operator(other, live)
            with self.assertRaises(TypeError):
                other in live


class TrialTest(Checks):

    def spoiled(self, live):
        """Does all that a live can do."""
        number = live.begin(BUY)
        live.switch((0, 1))
        live(number)
        live(number)
        live(number)
        live.switch((1, 1))
        for going in live.going:
            live(going)
        live.begin(PAY)

    def test_the_live_itself(self):
        live = part_of_the_way()
        with live.trial() as same:
            self.assertIs(same, live)

    def test_it_is_what_it_was(self):
        live = part_of_the_way()
        with live.trial() as same:
            self.spoiled(same)
            self.assertFalse(live == part_of_the_way())
            self.assertEqual((len(live), live.standing, len(live.ended)), (4, (1, 1), 2))
        self.assertTrue(live == part_of_the_way())
        self.assertEqual(shown(live), shown(part_of_the_way()))
        # It goes on as one does that was never tried.
        other = part_of_the_way()
        for each in (live, other):
            self.spoiled(each)
        self.assertTrue(live == other)
        self.assertEqual(shown(live), shown(other))

    def test_the_number_of_the_next_one(self):
        live = part_of_the_way()
        with live.trial():
            self.assertEqual([live.begin(PAY), live.begin(PAY)], [3, 4])
        self.assertEqual(live.begin(PAY), 3)

    def test_an_exception_passes(self):
        live = part_of_the_way()
        error = Boom()
        with self.assertRaises(Boom) as caught:
            with live.trial() as same:
                self.spoiled(same)
                raise error
        self.assertIs(caught.exception, error)
        self.assertTrue(live == part_of_the_way())
        with self.assertRaises(BadNumber):
            with live.trial():
                live.switch((0, 1))
                live.go(17)
        with self.assertRaises(KeyboardInterrupt):
            with live.trial():
                live.switch((0, 1))
                raise KeyboardInterrupt
        self.assertTrue(live == part_of_the_way())

    def test_leaving_the_block_by_return_and_break(self):
        live = part_of_the_way()

        def leaves():
            with live.trial():
                live.switch((0, 1))
                return live.standing
        self.assertEqual(leaves(), (0, 1))
        for step in range(3):
            with live.trial():
                live.switch((1, 0))
                break
        self.assertTrue(live == part_of_the_way())

    def test_within_one_another(self):
        live = part_of_the_way()
        with live.trial() as outer:
            live.switch((0, 1))
            middle = part_of_the_way()
            middle.switch((0, 1))
            with live.trial() as inner:
                self.assertIs(inner, outer)
                self.spoiled_again(live)
                with live.trial():
                    live.begin(PAY)
                self.assertFalse(live == middle)
            self.assertTrue(live == middle)
            with live.trial():
                self.spoiled_again(live)
            self.assertTrue(live == middle)
            live.go(2)
        self.assertTrue(live == part_of_the_way())

    def spoiled_again(self, live):
        live.switch((0, 0))
        live.go(1)
        live.begin(BUY)

    def test_what_it_was_when_the_block_began(self):
        live = Live(BOOK, (0, 0))
        trial = live.trial()
        live.begin(PAY)
        live.switch((0, 1))
        same = Live(BOOK, (0, 0))
        same.begin(PAY)
        same.switch((0, 1))
        with trial:
            live.switch((1, 1))
            live(0)
        self.assertTrue(live == same)
        live.trial()
        self.assertTrue(live == same)

    def test_two_lives(self):
        one, other = part_of_the_way(), part_of_the_way()
        with one.trial():
            one.switch((0, 1))
            other.begin(PAY)
        self.assertTrue(one == part_of_the_way())
        self.assertEqual(other.going, (1, 2, 3))

    def test_lists_that_were_told_before(self):
        live = part_of_the_way()
        told = live.ended
        with live.trial():
            self.spoiled(live)
            within = live.ended
        self.assertEqual((told, len(within)), ([(0, ("low", "new"), True)], 2))


class TriedTest(Checks):

    def test_it_returns_what_the_function_returns_itself(self):
        live = part_of_the_way()
        for thing in (None, [], object(), live, (1, [2])):
            self.assertIs(tried(live, lambda same: thing), thing)
        self.assertIs(tried(live, lambda same: same), live)

    def test_the_live_is_what_it_was(self):
        live = part_of_the_way()

        def function(same):
            same.switch((0, 1))
            return same(1), same(1), same.ended
        self.assertEqual(tried(live, function), ("new", ("low", "new"), [
            (0, ("low", "new"), True), (1, ("low", "new"), False)]))
        self.assertTrue(live == part_of_the_way())

    def test_its_exceptions_pass(self):
        live = part_of_the_way()
        error = Boom()

        def function(same):
            same.begin(PAY)
            raise error
        with self.assertRaises(Boom) as caught:
            tried(live, function)
        self.assertIs(caught.exception, error)
        self.assertTrue(live == part_of_the_way())

    def test_within_one_another(self):
        live = part_of_the_way()

        def outer(same):
            same.switch((0, 1))
            return tried(same, lambda again: (again.switch((0, 0)), len(again))), len(same)
        self.assertEqual(tried(live, outer), ((None, 4), 3))
        self.assertEqual(len(live), 2)


class ConventionsTest(Checks):

    def test_names_of_parameters(self):
        live = Live(standing=(0, 0), book=BOOK)
        self.assertEqual(live.begin(request=BUY), 0)
        self.assertEqual(live(number=0), "low")
        self.assertIsNone(live.switch(standing=(0, 1)))
        self.assertIsNone(live.go(number=0))
        self.assertEqual(tried(function=len, live=live), 1)

    def test_the_list_is_a_new_one(self):
        live = part_of_the_way()
        live.ended.append(3)
        live.ended.clear()
        self.assertEqual(live.ended, [(0, ("low", "new"), True)])
        self.assertIsNot(live.ended, live.ended)
        self.assertIsInstance(live.ended, list)

    def test_books_and_requests_never_change(self):
        part_of_the_way()
        self.assertTrue(BOOK == Book(PAIR) and BUY == Request(PAIR, PLACES))

    def test_lives_do_not_hang_together(self):
        one, other = Live(BOOK, (0, 0)), Live(BOOK, (0, 0))
        one.begin(BUY)
        one.switch((0, 1))
        self.assertEqual(shown(other), (BOOK, (0, 0), (), [], 0))


class AtRandomTest(Checks):

    def test_against_a_slow_account(self):
        rng = random.Random(121)
        torn = 0
        for book, request in oracle.random_cases(150, 122):
            requests = [request, oracle.random_request(rng, book.settings, 7)]
            requests += [oracle.asking_request(rng, book.settings, 3)]
            start = rng.choice(GRID if len(book.settings) == 2 else ((0,), (1,)))
            live, states, ended, switches = Live(book, start), {}, [], 0
            begun = 0
            for step in range(150):
                way = rng.random()
                if way < 0.2:
                    states[begun] = oracle.State(book, rng.choice(requests), live.standing)
                    self.assertEqual(live.begin(states[begun].request), begun)
                    begun += 1
                elif way < 0.45 and book.after(live.standing):
                    standing = rng.choice(book.after(live.standing))
                    live.switch(standing)
                    switches += 1
                    states = {number: state.moved(("to", standing)) for number, state in states.items()}
                elif states:
                    number = rng.choice(sorted(states))
                    state = states[number]
                    after = state.moved(("go",))
                    told = live.go(number)
                    if after.place is None:
                        self.assertEqual(told, after.row)
                        ended.append((number, after.row, after.is_torn()))
                        torn += after.is_torn()
                        del states[number]
                    else:
                        self.assertEqual(told, after.row[-1] if after.row != state.row else None)
                        states[number] = after
                self.assertEqual(shown(live)[2:], (tuple(sorted(states)), ended, switches))
        self.assertGreater(torn, 10)


if __name__ == "__main__":
    unittest.main()
