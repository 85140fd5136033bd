"""midswitch/requests.py: places, requests and plain rows, points [12] to [14], and the conventions."""

import itertools
import unittest

from midswitch.books import Book
from midswitch.errors import BadModes, BadPlaces, BadSettings, BadStanding, Missing, TooMany
from midswitch.requests import MODES, MOST_PLACES, Request
from samples import GRID, OTHER_PAIR, PAIR, PLACES, Checks, any_kind, without_tuples

LIVE = ("live", "live")
SELF = (("self", 1), ("modes", 1), ("cls", 1))


def fields(request):
    return (request.settings, request.places, request.modes)


def chain(many):
    """The places of a request with this many places: deeds one behind the other, and an end."""
    return tuple([("do", "a", at + 1) for at in range(many - 1)] + [("end",)])


class MakingTest(Checks):

    def test_constants(self):
        self.assertEqual(MODES, ("live", "met", "begin"))
        self.assertEqual(MOST_PLACES, 16)

    def test_fields(self):
        self.assertEqual(fields(Request(PAIR, PLACES)), (PAIR, PLACES, LIVE))
        self.assertEqual(fields(Request(PAIR, PLACES, None)), (PAIR, PLACES, LIVE))
        request = Request(settings=PAIR, places=PLACES, modes=("met", "begin"))
        self.assertEqual(fields(request), (PAIR, PLACES, ("met", "begin")))
        self.assertEqual(Request((("a", 1),), (("end",),)).modes, ("live",))
        self.assertEqual(Request(SELF, (("end",),)).modes, ("live", "live", "live"))

    def test_all_modes(self):
        for modes in itertools.product(MODES, repeat=2):
            self.assertEqual(Request(PAIR, PLACES, modes).modes, modes)

    def test_one_place_and_sixteen(self):
        for many in range(1, 17):
            self.assertEqual(len(Request(PAIR, chain(many))), many)
        self.assertEqual(len(Request(PAIR, (("do", "a", 0),))), 1)
        self.assertEqual(len(Request(PAIR, (("ask", "tax", (0, 0)),))), 1)

    def test_bad_settings(self):
        for thing in without_tuples(any_kind()):
            self.refused(BadSettings, "place", None, Request, thing, PLACES)
        self.refused(BadSettings, "place", 0, Request, (3,), 3, 3)

    def test_places_that_are_no_tuple(self):
        for thing in without_tuples(any_kind()) + [(), list(PLACES), chain(17), (3,) * 17]:
            self.refused(BadPlaces, "place", None, Request, PAIR, thing)

    def test_items_that_are_no_places(self):
        wrong = [
            ("do", "a"), ("do", "a", 0, 0), ("do", "a", 2), ("do", "a", -1), ("do", "a", True), ("do", "a", "0"),
            ("do", "A", 0), ("do", "", 0), ("do", "abcdefghi", 0), ("do", b"a", 0), ["do", "a", 0], ("do", "a", (0,)),
            ("do", "a", None), ("Do", "a", 0), ("go", "a", 0), (None, "a", 0), ("do", "a", 10 ** 999),
            ("ask", "price"), ("ask", "price", (0, 0), 0), ("ask", "price", (0,)), ("ask", "price", (0, 0, 0)),
            ("ask", "price", [0, 0]), ("ask", "price", (0, 2)), ("ask", "price", (-1, 0)), ("ask", "price", (0, True)),
            ("ask", "price", ((0,), 0)), ("ask", "rate", (0, 0)), ("ask", ("price", 1), (0, 0)), ("ask", 0, (0, 0)),
            ("ask", ["price"], (0, 0)), ("ask", "price", None), ("ask", "price", 0), ("ask", "price", "00"),
            ("end", 0), ("end", "a", 0), ["end"], (["end"],), ("end", ()), ("End",), (("end",),),
        ]
        for item in any_kind() + wrong:
            self.refused(BadPlaces, "place", 0, Request, PAIR, (item, ("end",)))
            self.refused(BadPlaces, "place", 1, Request, PAIR, (("end",), item))

    def test_any_kind_within_a_place(self):
        for thing in any_kind():
            if thing != "end":
                self.refused(BadPlaces, "place", 0, Request, PAIR, (("do", thing, 0),))
            if thing != 0 or isinstance(thing, bool):
                self.refused(BadPlaces, "place", 0, Request, PAIR, (("do", "a", thing),))
                self.refused(BadPlaces, "place", 0, Request, PAIR, (("ask", "tax", (0, thing)),))
            self.refused(BadPlaces, "place", 0, Request, PAIR, (("ask", thing, (0, 0)),))
            self.refused(BadPlaces, "place", 0, Request, PAIR, (("ask", "tax", thing),))
            self.refused(BadPlaces, "place", 0, Request, PAIR, ((thing, "a", 0),))

    def test_the_first_item_that_is_no_place(self):
        self.refused(BadPlaces, "place", 1, Request, PAIR, (("end",), ("do", "a", 4), ("end",), None))
        self.refused(BadPlaces, "place", 2, Request, PAIR, (("do", "a", 2), ("end",), 7, 7))

    def test_an_ask_has_a_number_for_each_value(self):
        settings = (("a", 1), ("b", 2))
        for many in range(5):
            for name, most in settings:
                places = (("ask", name, (0,) * many),)
                if many == most + 1:
                    self.assertEqual(Request(settings, places).places, places)
                else:
                    self.refused(BadPlaces, "place", 0, Request, settings, places)

    def test_bad_modes(self):
        for thing in without_tuples(any_kind()) + [(), ("live",), ("live",) * 3, list(LIVE), "livemet"]:
            if thing is not None:
                self.refused(BadModes, "place", None, Request, PAIR, PLACES, thing)
        for item in any_kind() + ["Live", "lives", b"met", ("met",), ["live"]]:
            self.refused(BadModes, "place", 0, Request, PAIR, PLACES, (item, item))
            self.refused(BadModes, "place", 1, Request, PAIR, PLACES, ("begin", item))

    def test_the_error_that_is_listed_first(self):
        self.refused(BadPlaces, "place", None, Request, PAIR, [], [])
        self.refused(BadPlaces, "place", 0, Request, PAIR, (3,), (3, 3))

    def test_methods_stand_in_the_class(self):
        for name in ("__init__", "__len__", "__eq__", "__add__", "keeping", "with_modes", "straight", "plain"):
            self.assertIn(name, vars(Request))
        self.assertEqual(Request.__module__, "midswitch.requests")


class EqualTest(Checks):

    def test_equal(self):
        request = Request(PAIR, PLACES)
        for other, equal in (
            (Request(PAIR, PLACES, LIVE), True), (Request(PAIR, PLACES, ("live", "met")), False),
            (Request(PAIR, PLACES[:6] + (("do", "new", 6),)), False), (Request(PAIR, PLACES + (("end",),)), False),
            (Request((("price", 1), ("tax", 1), ("c", 1)), PLACES), False),
        ):
            self.assertIs(request == other, equal)
            self.assertIs(request != other, not equal)
        self.assertIs(Request(PAIR, (("end",),)) == Request(OTHER_PAIR, (("end",),)), False)

    def test_other_values_are_not_equal(self):
        request = Request(PAIR, PLACES)
        for other in any_kind() + [PLACES, (PAIR, PLACES, LIVE), Book(PAIR)]:
            self.assertIs(request == other, False)
            self.assertIs(request != other, True)
            self.assertIs(other == request, False)
            self.assertIs(other != request, True)

    def test_requests_are_not_iterated_over(self):
        request = Request(PAIR, PLACES)
        for made in (lambda: iter(request), lambda: list(request), lambda: ("end",) in request, lambda: request < request,
                     lambda: request[0]):
            self.assertRaises(TypeError, made)


class ModesTest(Checks):

    def test_keeping(self):
        request = Request(PAIR, PLACES, ("met", "live"))
        self.assertEqual(fields(request.keeping(tax="begin")), (PAIR, PLACES, ("met", "begin")))
        self.assertEqual(fields(request.keeping(tax="met", price="live")), (PAIR, PLACES, ("live", "met")))
        self.assertTrue(request.keeping() == request)
        self.assertEqual(fields(request), (PAIR, PLACES, ("met", "live")))

    def test_keeping_of_a_dict_that_is_changed_later(self):
        modes = {"tax": "begin"}
        made = Request(PAIR, PLACES).keeping(**modes)
        modes["tax"] = "met"
        self.assertEqual(made.modes, ("live", "begin"))

    def test_keeping_of_no_setting(self):
        request = Request(PAIR, PLACES)
        for more, name in (({"rate": "met"}, "rate"), ({"rate": 0, "tax": 0}, "rate"), ({"tax": 0, "rate": 0}, "rate"),
                           ({"tax": "met", "b": "met", "a": "met"}, "b"), ({"": "met"}, ""), ({"No name": 1}, "No name"),
                           ({"settings": "met"}, "settings"), ({"modes": "met"}, "modes")):
            self.refused(Missing, "name", name, request.keeping, **more)
        self.assertEqual(fields(request), (PAIR, PLACES, LIVE))

    def test_keeping_of_no_mode(self):
        request = Request(PAIR, PLACES)
        for mode in any_kind() + ["Live", ("met",), ["live"]]:
            self.refused(BadModes, "place", "tax", request.keeping, tax=mode)
            self.refused(BadModes, "place", "tax", request.keeping, price="met", tax=mode)
            self.refused(BadModes, "place", "tax", request.keeping, tax=mode, price=mode)

    def test_settings_with_names_of_parameters(self):
        request = Request(SELF, (("end",),))
        self.assertEqual(request.keeping(modes="met", cls="begin").modes, ("live", "met", "begin"))
        self.assertEqual(request.with_modes(("met", "live", "live")).modes, ("met", "live", "live"))
        self.assertEqual(request.with_modes(("met", "live", "live")).keeping(cls="met").modes, ("met", "live", "met"))
        with self.assertRaises(TypeError):
            request.keeping(**{"self": "met"})
        self.assertEqual(request.modes, ("live", "live", "live"))

    def test_with_modes(self):
        request = Request(PAIR, PLACES)
        self.assertEqual(fields(request.with_modes(("begin", "met"))), (PAIR, PLACES, ("begin", "met")))
        self.assertEqual(fields(request.with_modes(modes=LIVE)), (PAIR, PLACES, LIVE))
        self.assertEqual(fields(request), (PAIR, PLACES, LIVE))

    def test_with_other_modes(self):
        request = Request(PAIR, PLACES)
        for thing in without_tuples(any_kind()) + [(), ("live",), ("live",) * 3, list(LIVE)]:
            self.refused(BadModes, "place", None, request.with_modes, thing)
        for item in any_kind():
            self.refused(BadModes, "place", 0, request.with_modes, (item, item))
            self.refused(BadModes, "place", 1, request.with_modes, ("met", item))


class AddTest(Checks):

    def test_one_end_at_the_last_place(self):
        one = Request(PAIR, (("do", "a", 1), ("end",)), ("met", "begin"))
        other = Request(PAIR, (("ask", "tax", (1, 2)), ("do", "b", 0), ("end",)), ("begin", "live"))
        made = one + other
        self.assertEqual(fields(made), (PAIR, (("do", "a", 1), ("ask", "tax", (2, 3)), ("do", "b", 1), ("end",)),
                                        ("met", "begin")))
        self.assertEqual(fields(one), (PAIR, (("do", "a", 1), ("end",)), ("met", "begin")))
        self.assertEqual(other.modes, ("begin", "live"))
        self.assertEqual(other.places, (("ask", "tax", (1, 2)), ("do", "b", 0), ("end",)))

    def test_ends_in_the_middle(self):
        one = Request(PAIR, (("do", "a", 2), ("end",), ("ask", "price", (3, 1)), ("do", "b", 1)))
        other = Request(PAIR, (("do", "c", 1), ("end",)))
        self.assertEqual((one + other).places, (
            ("do", "a", 1), ("ask", "price", (2, 3)), ("do", "b", 3), ("do", "c", 4), ("end",)))

    def test_several_ends(self):
        one = Request(PAIR, (("ask", "tax", (1, 4)), ("end",), ("end",), ("do", "b", 5), ("do", "a", 3), ("end",)))
        other = Request(PAIR, (("ask", "price", (1, 2)), ("end",), ("end",)))
        self.assertEqual((one + other).places, (
            ("ask", "tax", (3, 2)), ("do", "b", 3), ("do", "a", 1), ("ask", "price", (4, 5)), ("end",), ("end",)))

    def test_no_end(self):
        one = Request(PAIR, (("do", "a", 1), ("do", "b", 0)))
        other = Request(PAIR, (("do", "c", 0),))
        self.assertEqual((one + other).places, (("do", "a", 1), ("do", "b", 0), ("do", "c", 2)))

    def test_an_end_as_the_place_0(self):
        other = Request(PAIR, PLACES, ("met", "met"))
        for places in ((("end",),), (("end",), ("do", "a", 0)), (("end",),) + (("do", "a", 0),) * 15):
            made = Request(PAIR, places, ("live", "begin")) + other
            self.assertEqual(fields(made), (PAIR, PLACES, ("live", "begin")))
        self.assertEqual((Request(PAIR, (("end",),)) + Request(PAIR, chain(16))).places, chain(16))

    def test_an_end_as_the_place_0_of_the_other_one(self):
        made = Request(PAIR, (("do", "a", 1), ("end",))) + Request(PAIR, (("end",), ("do", "b", 0)))
        self.assertEqual(made.places, (("do", "a", 1), ("end",), ("do", "b", 1)))

    def test_sixteen_places_and_more(self):
        self.assertEqual((Request(PAIR, chain(8)) + Request(PAIR, chain(9))).places, chain(16))
        self.assertEqual((Request(PAIR, chain(16)) + Request(PAIR, (("end",),))).places, chain(16))
        for one, other in ((9, 9), (16, 2), (2, 16), (16, 16)):
            self.refused(TooMany, "most", 16, lambda a, b: a + b, Request(PAIR, chain(one)), Request(PAIR, chain(other)))
        loop = Request(PAIR, (("do", "a", 0),) * 15)
        self.assertEqual(len(loop + Request(PAIR, (("end",),))), 16)
        self.refused(TooMany, "most", 16, lambda: loop + loop)

    def test_other_settings(self):
        for settings in (OTHER_PAIR, (("tax", 1), ("price", 1)), (("price", 1),)):
            for many in (1, 16):
                other = Request(settings, chain(many))
                self.refused(BadSettings, "place", None, lambda: Request(PAIR, chain(16)) + other)
                self.refused(BadSettings, "place", None, lambda: Request(PAIR, (("end",),)) + other)

    def test_other_values(self):
        request = Request(PAIR, PLACES)
        for other in any_kind() + [PLACES, Book(PAIR)]:
            with self.assertRaises(TypeError):
                request + other
            with self.assertRaises(TypeError):
                other + request
        for made in (lambda: sum([request, request]), lambda: request * 2, lambda: request - request,
                     lambda: request & request):
            self.assertRaises(TypeError, made)

    def test_add_in_place_makes_a_new_request(self):
        request = same = Request.straight(PAIR, "a")
        request += Request.straight(PAIR, "b")
        self.assertEqual(request.plain((0, 0)), ("a", "b"))
        self.assertEqual(same.plain((0, 0)), ("a",))

    def test_the_plain_rows_are_joined(self):
        ask = Request(PAIR, PLACES)
        maybe = Request(PAIR, (("ask", "tax", (3, 2)), ("end",), ("do", "x", 1), ("do", "y", 0)))
        early = Request(PAIR, (("ask", "price", (2, 1)), ("end",), ("do", "z", 3), ("end",)))
        for one, other in itertools.product((ask, maybe, early), repeat=2):
            for standing in GRID:
                rows = (one.plain(standing), other.plain(standing))
                expected = None if None in rows else rows[0] + rows[1]
                self.assertEqual((one + other).plain(standing), expected)


class StraightTest(Checks):

    def test_places(self):
        request = Request.straight(PAIR, "pay", "send")
        self.assertEqual(fields(request), (PAIR, (("do", "pay", 1), ("do", "send", 2), ("end",)), LIVE))
        self.assertEqual(fields(Request.straight(PAIR)), (PAIR, (("end",),), LIVE))
        self.assertEqual(Request.straight(settings=PAIR).places, (("end",),))
        self.assertEqual(Request.straight(PAIR, "a", "a", "b").plain((1, 0)), ("a", "a", "b"))
        self.assertEqual(Request.straight(PAIR, *["a"] * 15).places, chain(16))
        self.assertIsInstance(request, Request)

    def test_it_is_a_class_method(self):
        self.assertIsInstance(vars(Request)["straight"], classmethod)

    def test_refusals(self):
        for thing in without_tuples(any_kind()):
            self.refused(BadSettings, "place", None, Request.straight, thing, 3)
        self.refused(BadSettings, "place", "many", Request.straight, (("a", 3), ("b", 3)), "a")
        for thing in any_kind() + ["abcdefghi", "a b", ("a",), ["a"]]:
            if thing != "end":
                self.refused(BadPlaces, "place", 0, Request.straight, PAIR, thing, thing)
                self.refused(BadPlaces, "place", 1, Request.straight, PAIR, "a", thing)
                self.refused(BadPlaces, "place", 16, Request.straight, PAIR, *["a"] * 16, thing)
        for many in (16, 17, 100):
            self.refused(TooMany, "most", 16, Request.straight, PAIR, *["a"] * many)


class PlainTest(Checks):

    def test_rows(self):
        request = Request(PAIR, PLACES)
        self.assertEqual([request.plain(standing) for standing in GRID],
                         [("low", "old"), ("low", "new"), ("high", "old"), ("high", "new")])
        self.assertEqual(request.plain(standing=(1, 1)), ("high", "new"))

    def test_modes_do_not_matter(self):
        for modes in itertools.product(MODES, repeat=2):
            self.assertEqual(Request(PAIR, PLACES, modes).plain((1, 0)), ("high", "old"))

    def test_an_empty_row(self):
        self.assertEqual(Request(PAIR, (("end",),)).plain((0, 0)), ())
        self.assertEqual(Request(PAIR, (("ask", "tax", (1, 1)), ("end",))).plain((0, 0)), ())

    def test_ways_that_never_end(self):
        self.assertIsNone(Request(PAIR, (("do", "a", 0),)).plain((0, 0)))
        self.assertIsNone(Request(PAIR, (("ask", "tax", (0, 0)),)).plain((0, 0)))
        some = Request(PAIR, (("do", "a", 1), ("ask", "tax", (0, 2)), ("end",)))
        self.assertEqual([some.plain(standing) for standing in GRID], [None, ("a",), None, ("a",)])

    def test_the_longest_row(self):
        self.assertEqual(Request(PAIR, chain(16)).plain((0, 0)), ("a",) * 15)
        backwards = (("do", "a", 15), ("end",)) + tuple([("do", "b", at) for at in range(1, 15)])
        self.assertEqual(Request(PAIR, backwards).plain((0, 0)), ("a",) + ("b",) * 14)

    def test_three_settings(self):
        settings = (("a", 1), ("b", 2), ("c", 1))
        places = (("ask", "c", (1, 2)), ("ask", "b", (3, 4, 5)), ("ask", "a", (3, 4)),
                  ("do", "x", 6), ("do", "y", 6), ("do", "z", 6), ("end",))
        request = Request(settings, places)
        for standing, row in (((1, 0, 0), ("x",)), ((1, 1, 0), ("y",)), ((0, 2, 0), ("z",)), ((0, 2, 1), ("x",)),
                              ((1, 2, 1), ("y",))):
            self.assertEqual(request.plain(standing), row)

    def test_other_values(self):
        request = Request(PAIR, PLACES)
        for thing in any_kind() + [(0, 2), (True, 0), [0, 0], (0,), (0, 0, 0)]:
            with self.assertRaises(BadStanding) as caught:
                request.plain(thing)
            self.assertIs(caught.exception.value, thing)

    def test_no_call_changes_a_request(self):
        request = Request(PAIR, PLACES)
        request.plain((0, 0))
        request.keeping(tax="met")
        request.with_modes(("met", "met"))
        request + request
        self.assertEqual(fields(request), (PAIR, PLACES, LIVE))
        self.assertTrue(request.keeping(tax="met") == request.keeping(tax="met"))


class ExampleTest(Checks):

    def test_the_documents_example(self):
        book = Book(PAIR, starts=((0, 0),), switches=(((0, 0), (1, 0)), ((1, 0), (1, 1))))
        request = Request(PAIR, PLACES)
        self.assertEqual([request.plain(standing) for standing in ((0, 0), (1, 0), (1, 1))],
                         [("low", "old"), ("high", "old"), ("high", "new")])
        self.assertEqual([book.after(standing) for standing in GRID], [((1, 0),), (), ((1, 1),), ()])
        self.assertEqual(request.keeping(tax="begin").modes, ("live", "begin"))
        self.assertEqual(Request.straight(PAIR, "pay", "send").places,
                         (("do", "pay", 1), ("do", "send", 2), ("end",)))


if __name__ == "__main__":
    unittest.main()
