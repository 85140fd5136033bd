"""midswitch/pins.py: settings that are kept so that no request is torn, points [13] and [24]."""

import itertools
import unittest

import oracle
from midswitch import pins
from midswitch.books import Book
from midswitch.errors import TooMany
from midswitch.pins import all_kept, fewest_kept
from midswitch.requests import MODES, Request
from midswitch.verdicts import verdict
from samples import PAIR, PLACES, SWITCH, TWICE, Checks, many_met_nodes, many_nodes, many_torn_nodes, one_node_too_many

EVERY = list(itertools.product(MODES, repeat=2))
PRICE_FIRST = Book(PAIR, starts=((0, 0),), switches=(((0, 0), (1, 0)), ((1, 0), (1, 1))))
TAX_FIRST = Book(PAIR, starts=((0, 0),), switches=(((0, 0), (0, 1)), ((0, 1), (1, 1))))
REQUEST = Request(PAIR, PLACES)


class KeptTest(Checks):

    def test_the_documents_example(self):
        self.assertEqual(fewest_kept(PRICE_FIRST, REQUEST), ("live", "begin"))
        self.assertEqual(all_kept(PRICE_FIRST, REQUEST), [("live", "begin"), ("met", "begin"), ("begin", "begin")])

    def test_one_that_becomes_torn_by_keeping_the_tax_alone(self):
        self.assertEqual(verdict(TAX_FIRST, REQUEST.keeping(tax="begin"))[0], "torn")
        self.assertEqual(fewest_kept(TAX_FIRST, REQUEST), ("live", "live"))
        self.assertEqual(all_kept(TAX_FIRST, REQUEST), [
            modes for modes in EVERY if modes not in (("live", "begin"), ("met", "begin"))])

    def test_one_that_is_never_torn(self):
        for request in (Request.straight(PAIR, "x"), Request(PAIR, (("do", "x", 0),))):
            self.assertEqual(fewest_kept(Book(PAIR), request), ("live", "live"))
            self.assertEqual(all_kept(Book(PAIR), request), EVERY)

    def test_without_starts_or_switches(self):
        for book in (Book(PAIR, starts=()), Book(PAIR, switches=())):
            self.assertEqual(fewest_kept(book, REQUEST), ("live", "live"))
            self.assertEqual(all_kept(book, REQUEST), EVERY)

    def test_one_setting(self):
        request = Request(SWITCH, TWICE)
        self.assertEqual(all_kept(Book(SWITCH), request), [("met",), ("begin",)])
        self.assertEqual(fewest_kept(Book(SWITCH), request), ("met",))

    def test_three_settings(self):
        settings = (("b", 1), ("a", 1), ("c", 1))
        book = Book(settings, starts=((0, 0, 0),), switches=(((0, 0, 0), (0, 1, 0)),))
        request = Request(settings, TWICE)
        every = list(itertools.product(MODES, repeat=3))
        self.assertEqual(all_kept(book, request), [modes for modes in every if modes[1] != "live"])
        self.assertEqual(fewest_kept(book, request), ("live", "met", "live"))

    def test_fewer_words_come_before_the_order(self):
        book = Book((("a", 1), ("b", 1)), starts=((0, 0), (0, 1)), switches=(((0, 0), (1, 0)), ((1, 0), (0, 1))))
        request = Request(book.settings, (("ask", "a", (2, 1)), ("do", "w", 3), ("ask", "a", (5, 3)),
                                          ("ask", "b", (4, 5)), ("do", "z", 5), ("end",)))
        self.assertEqual(all_kept(book, request), [
            ("met", "begin"), ("begin", "live"), ("begin", "met"), ("begin", "begin")])
        self.assertEqual(fewest_kept(book, request), ("begin", "live"))

    def test_the_modes_that_the_request_has_do_not_matter(self):
        for modes in EVERY:
            self.assertEqual(fewest_kept(PRICE_FIRST, REQUEST.with_modes(modes)), ("live", "begin"))
            self.assertEqual(len(all_kept(PRICE_FIRST, REQUEST.with_modes(modes))), 3)

    def test_random_requests(self):
        orders = {mode: at for at, mode in enumerate(MODES)}
        some = 0
        for book, request in oracle.random_cases(150, 71):
            good = []
            for modes in itertools.product(MODES, repeat=len(request.settings)):
                if oracle.fewest_torn(oracle.all_states(book, request.with_modes(modes))) is None:
                    good.append(modes)
            least = min(good, key=lambda modes: (len(modes) - modes.count("live"), [orders[mode] for mode in modes]))
            self.assertEqual(all_kept(book, request), good)
            self.assertEqual(fewest_kept(book, request), least)
            some += len(good) < 3 ** len(request.settings)
        self.assertGreater(some, 5)

    def test_all_begin_is_always_good(self):
        for book, request in oracle.random_cases(60, 73):
            self.assertEqual(all_kept(book, request)[-1], ("begin",) * len(request.settings))


class TooManyTest(Checks):

    def test_with_all_modes(self):
        for book, request in (many_nodes(), many_torn_nodes(), one_node_too_many()):
            self.refused(TooMany, "most", 600, fewest_kept, book, request)
            self.refused(TooMany, "most", 600, all_kept, book, request)
        self.assertEqual(fewest_kept(book.starting(), request), ("live", "live"))

    def test_where_some_other_modes_would_do(self):
        book, request = many_met_nodes()
        self.assertEqual(verdict(book, request)[0], "whole")
        for modes in (("live", "live"), ("begin", "begin"), ("met", "met")):
            self.refused(TooMany, "most", 600, fewest_kept, book, request.with_modes(modes))
            self.refused(TooMany, "most", 600, all_kept, book, request.with_modes(modes))


class ConventionsTest(Checks):

    def test_names_of_parameters(self):
        self.assertEqual(fewest_kept(request=REQUEST, book=PRICE_FIRST), ("live", "begin"))
        self.assertEqual(len(all_kept(request=REQUEST, book=PRICE_FIRST)), 3)

    def test_the_list_is_a_new_one(self):
        kept = all_kept(PRICE_FIRST, REQUEST)
        self.assertIsInstance(kept, list)
        kept.clear()
        self.assertEqual(len(all_kept(PRICE_FIRST, REQUEST)), 3)
        self.assertIsInstance(fewest_kept(PRICE_FIRST, REQUEST), tuple)

    def test_nothing_is_changed(self):
        book, request = Book(PAIR), Request(PAIR, PLACES, ("met", "live"))
        self.assertEqual(all_kept(book, request), all_kept(book, request))
        self.assertEqual(fewest_kept(book, request), fewest_kept(book, request))
        self.assertTrue(book == Book(PAIR) and request == Request(PAIR, PLACES, ("met", "live")))

    def test_functions_stand_in_this_file(self):
        for function in (fewest_kept, all_kept):
            self.assertEqual(function.__module__, pins.__name__)


if __name__ == "__main__":
    unittest.main()
