"""What DOC.md promises over the whole program: points [0] to [4], the names of the interface, and the examples."""

import copy
import inspect
import itertools
import operator
import random
import unittest

import oracle
from midswitch import alike, books, errors, live, pins, plans, requests, runs, settings, tables, texts, verdicts
from midswitch.alike import can_do, first_unlike, is_within
from midswitch.books import Book
from midswitch.live import Live, tried
from midswitch.pins import all_kept, fewest_kept
from midswitch.plans import check_plan, is_safe, least_plan
from midswitch.requests import MODES, Request
from midswitch.runs import is_right, is_torn, is_whole, lived, place_of, row_of
from midswitch.settings import is_standing, need_settings, standings
from midswitch.tables import behind, crossed, is_torn_node, need_node, start_nodes, table
from midswitch.texts import book_text, read_book, read_request, request_text
from midswitch.verdicts import check, run_to, run_to_place, verdict
from samples import GO, GRID, PAIR, PLACES, Checks, any_kind, to

# The parameters of each name of the interface; those behind a star by name alone.
FUNCTIONS = {
    settings: {"need_settings": "thing", "standings": "settings", "is_standing": "settings, thing"},
    runs: {name: "book, request, run" for name in ("row_of", "is_right", "is_whole", "is_torn", "lived", "place_of")},
    tables: {"start_nodes": "book, request", "need_node": "book, request, thing", "behind": "book, request, node",
             "is_torn_node": "book, request, node", "table": "book, request", "crossed": "book, request"},
    verdicts: {"verdict": "book, request", "check": "book, request, paper", "run_to": "book, request, row",
               "run_to_place": "book, request, place"},
    pins: {"fewest_kept": "book, request", "all_kept": "book, request"},
    plans: {"is_safe": "book, requests, window", "check_plan": "book, requests, plan",
            "least_plan": "book, requests, first, last"},
    alike: {"can_do": "book, request, row", "first_unlike": "book, one, other", "is_within": "book, one, other"},
    texts: {"book_text": "book", "request_text": "request", "read_book": "text", "read_request": "settings, text"},
    live: {"tried": "live, function"},
}
CLASSES = {
    books.Book: {"__init__": "self, settings, *, starts=None, switches=None", "__len__": "self",
                 "__contains__": None, "__eq__": None, "__and__": None, "after": "self, standing",
                 "starting": "self, *starts"},
    requests.Request: {"__init__": "self, settings, places, modes=None", "__len__": "self", "__eq__": None,
                       "__add__": None, "keeping": "self, **modes", "with_modes": "self, modes",
                       "straight": "settings, *names", "plain": "self, standing"},
    live.Live: {"__init__": "self, book, standing", "__len__": "self", "__eq__": None, "begin": "self, request",
                "go": "self, number", "switch": "self, standing", "__call__": "self, number", "trial": "self"},
}
BOOK = Book(PAIR)
PRICE_FIRST = Book(PAIR, starts=((0, 0),), switches=(((0, 0), (1, 0)), ((1, 0), (1, 1))))
BUY = Request(PAIR, PLACES)


class InterfaceTest(Checks):

    def test_functions(self):
        for module, names in FUNCTIONS.items():
            for name, parameters in names.items():
                function = vars(module)[name]
                self.assertEqual(str(inspect.signature(function)), f"({parameters})", name)
                self.assertEqual(function.__module__, module.__name__)

    def test_classes(self):
        for owner, names in CLASSES.items():
            for name, parameters in names.items():
                self.assertIn(name, vars(owner))
                if parameters is not None:
                    method = getattr(owner, name)
                    self.assertEqual(str(inspect.signature(method)), f"({parameters})", name)
        self.assertEqual([owner.__module__ for owner in CLASSES],
                         ["midswitch.books", "midswitch.requests", "midswitch.live"])

    def test_errors(self):
        for name in ("Settings Starts Switches Places Modes Run Node Paper Window Plan").split():
            self.assertEqual(str(inspect.signature(vars(errors)["Bad" + name])), "(place)")
        for name, field in (("BadStanding", "value"), ("BadText", "line"), ("BadNumber", "value"), ("Missing", "name"),
                            ("TooMany", "most")):
            self.assertEqual(str(inspect.signature(vars(errors)[name])), f"({field})")

    def test_constants(self):
        self.assertEqual((requests.MODES, requests.MOST_PLACES, tables.MOST_NODES), (("live", "met", "begin"), 16, 600))


class ByNameTest(Checks):

    def test_functions_by_the_names_of_the_document_in_another_order(self):
        run = ((0, 0), (GO, GO, to(1, 0), to(1, 1), GO, GO, GO))
        values = {"book": PRICE_FIRST, "request": BUY, "run": run, "node": start_nodes(PRICE_FIRST, BUY)[0],
                  "paper": ("torn", run), "row": ("low", "new"), "place": 5, "requests": (BUY,), "one": BUY,
                  "window": ((0, 0), (1, 0)), "plan": (((0, 0), (1, 0)), ((1, 0), (1, 1))), "first": (0, 0),
                  "last": (1, 1), "other": BUY.keeping(tax="begin"), "settings": PAIR, "function": len,
                  "live": Live(PRICE_FIRST, (0, 0))}
        called = 0
        for module, names in FUNCTIONS.items():
            for name, parameters in names.items():
                function = vars(module)[name]
                words = parameters.split(", ")
                values["text"] = request_text(BUY) if name == "read_request" else book_text(BOOK)
                values["thing"] = {"need_settings": PAIR, "is_standing": (0, 1), "need_node": values["node"]}.get(name)
                told = [function(*[values[word] for word in words]),
                        function(**{word: values[word] for word in reversed(words)})]
                if name == "standings":
                    told = [list(generator) for generator in told]
                self.assertTrue(told[0] == told[1], name)
                called += 1
        self.assertEqual(called, 32)

    def test_classes_and_methods_by_the_names_of_the_document_in_another_order(self):
        book = Book(switches=PRICE_FIRST.switches, starts=((0, 0),), settings=PAIR)
        request = Request(modes=("live", "met"), places=PLACES, settings=PAIR)
        self.assertTrue(book == PRICE_FIRST and request == BUY.keeping(tax="met"))
        self.assertEqual(book.after(standing=(0, 0)), ((1, 0),))
        self.assertTrue(request.with_modes(modes=("live", "live")) == BUY)
        self.assertEqual(request.plain(standing=(0, 1)), ("low", "new"))
        same = Live(standing=(0, 0), book=book)
        self.assertEqual([same.begin(request=BUY), same.go(number=0), same(number=0)], [0, None, "low"])
        self.assertIsNone(same.switch(standing=(1, 0)))

    def test_what_stands_behind_a_star(self):
        for function in (lambda: Book(PAIR, ()), lambda: Book(PAIR, (), ()), lambda: BUY.keeping("met"),
                         lambda: BOOK.starting(starts=())):
            with self.assertRaises(TypeError):
                function()


class ExamplesTest(Checks):

    def test_the_price_first(self):
        settings = (('price', 1), ('tax', 1))
        places = (('ask', 'price', (1, 2)), ('do', 'low', 3), ('do', 'high', 3), ('ask', 'tax', (4, 5)),
                  ('do', 'old', 6), ('do', 'new', 6), ('end',))
        book = Book(settings, starts=((0, 0),), switches=(((0, 0), (1, 0)), ((1, 0), (1, 1))))
        request = Request(settings, places)
        self.assertEqual([request.plain(standing) for standing in ((0, 0), (1, 0), (1, 1))],
                         [('low', 'old'), ('high', 'old'), ('high', 'new')])
        self.assertEqual([verdict(book, request)[0], len(verdict(book, request)[1][1])], ['torn', 7])
        self.assertEqual(fewest_kept(book, Request(settings, places)), ('live', 'begin'))
        self.assertEqual(first_unlike(book, request, request.keeping(tax='begin')), (0, ('high', 'new')))
        self.assertEqual(least_plan(Book(settings), (Request(settings, places),), (0, 0), (1, 1)),
                         (((0, 0), (0, 1), (1, 1)),))
        self.assertEqual(request_text(Request.straight(settings, 'pay', 'send')),
                         'modes live live\ndo pay 1\ndo send 2\nend')


def asked(book, request, other):
    """What all functions tell of a book and two requests."""
    window = ((0, 0), (0, 1), (1, 1))
    run = ((0, 0), (GO, to(0, 1), GO, GO))
    path = ((0, 0),)
    while len(path) < 4 and book.after(path[-1]):
        path += (book.after(path[-1])[-1],)

    def ways(same):
        number = same.begin(request)
        for standing in path[1:]:
            same.switch(standing)
            if number in same.going:
                same.go(number)
        return same.ended, same.going, same.standing, len(same)
    return [
        need_settings(book.settings), list(standings(book.settings)), is_standing(book.settings, (0, 0)),
        book.settings, book.starts, book.switches, len(book), (0, 1) in book, book.after((0, 0)),
        book_text(book.starting((1, 1), (0, 0))), book_text(book & PRICE_FIRST), book == PRICE_FIRST, book != other,
        request.settings, request.places, request.modes, len(request), request == other, request != other,
        request_text(request.keeping(price="met")), request_text(request.with_modes(("begin", "met"))),
        request_text(request + Request.straight(PAIR, "pay")), [request.plain(standing) for standing in GRID],
        is_right(book, request, run), is_whole(book, request, run), is_torn(book, request, run),
        start_nodes(book, request), table(book, request), crossed(book, request),
        [behind(book, request, node) for node in table(book, request)[:9]],
        [is_torn_node(book, request, node) for node in table(book, request)],
        verdict(book, request), check(book, request, verdict(book, request)),
        run_to(book, request, ("low", "new")), [run_to_place(book, request, place) for place in range(len(request))],
        fewest_kept(book, request), all_kept(book, request),
        is_safe(book, (request, other), path), is_safe(BOOK, (request,), window),
        least_plan(book, (request, other), (0, 0), (1, 1)), can_do(book, request, ("low", "old")),
        first_unlike(book, request, other), is_within(book, request, other), is_within(book, other, request),
        book_text(read_book(book_text(book))), request_text(read_request(PAIR, request_text(request))),
        tried(Live(book, (0, 0)), ways),
    ]


def some_cases(many, seed):
    rng = random.Random(seed)
    for case in range(many):
        book = rng.choice((BOOK, PRICE_FIRST, oracle.random_book(rng, PAIR)))
        one = rng.choice((BUY, oracle.random_request(rng, PAIR, 6), oracle.asking_request(rng, PAIR, 2)))
        yield book, one.with_modes((rng.choice(MODES), rng.choice(MODES))), rng.choice((
            one, BUY, oracle.random_request(rng, PAIR, 5)))


class ConventionsTest(Checks):

    def test_equal_calls_return_equal_results_whatever_was_asked_in_between(self):
        cases = list(some_cases(25, 131))
        told = [asked(*case) for case in cases]
        for at in reversed(range(len(cases))):
            book, request, other = cases[at]
            again = (Book(PAIR, starts=book.starts, switches=book.switches),
                     Request(PAIR, request.places, request.modes), Request(PAIR, other.places, other.modes))
            self.assertEqual(asked(*again), told[at])
            self.assertEqual(asked(book, request, other), told[at])

    def test_books_and_requests_never_change(self):
        for book, request, other in some_cases(25, 132):
            before = (vars(book).copy(), vars(request).copy(), vars(other).copy())
            deep = copy.deepcopy(before)
            asked(book, request, other)
            self.assertEqual((vars(book), vars(request), vars(other)), before)
            self.assertEqual(before, deep)

    def test_returned_lists_are_new_objects(self):
        first = all_kept(BOOK, BUY)
        first.clear()
        self.assertGreater(len(all_kept(BOOK, BUY)), 0)
        same = Live(BOOK, (0, 0))
        same.ended.append(1)
        self.assertEqual(same.ended, [])

    def test_lists_and_dicts_that_were_passed(self):
        modes = {"price": "met", "tax": "begin"}
        kept = BUY.keeping(**modes)
        starts = [(1, 1), (0, 0)]
        started = BOOK.starting(*starts)
        modes["price"] = "live"
        starts.clear()
        self.assertEqual((kept.modes, started.starts), (("met", "begin"), ((0, 0), (1, 1))))
        self.assertEqual(modes, {"price": "live", "tax": "begin"})

    def test_a_call_that_raises_has_no_other_effect(self):
        told = asked(PRICE_FIRST, BUY, BUY)
        for thing in any_kind():
            for function, error in ((lambda: read_book(thing), errors.BadText),
                                    (lambda: read_request(PAIR, thing), errors.BadText),
                                    (lambda: is_safe(BOOK, (BUY,), thing), errors.BadWindow),
                                    (lambda: check_plan(BOOK, (BUY,), thing), errors.BadPlan),
                                    (lambda: least_plan(BOOK, (BUY,), thing, (0, 0)), errors.BadStanding),
                                    (lambda: need_node(BOOK, BUY, thing), errors.BadNode),
                                    (lambda: check(BOOK, BUY, thing), errors.BadPaper),
                                    (lambda: row_of(BOOK, BUY, thing), errors.BadRun),
                                    (lambda: lived(BOOK, BUY, thing), errors.BadRun),
                                    (lambda: place_of(BOOK, BUY, thing), errors.BadRun),
                                    (lambda: Live(BOOK, thing), errors.BadStanding)):
                with self.assertRaises(error):
                    function()
        self.assertEqual(asked(PRICE_FIRST, BUY, BUY), told)

    def test_operators_with_values_that_are_not_described(self):
        things = [BOOK, BUY, Live(BOOK, (0, 0)), 1, "a", (0, 0), [], {}, None, True]
        mine = (Book, Request, Live)
        described = {(Book, Book, operator.and_), (Request, Request, operator.add)}
        signs = (operator.add, operator.and_, operator.sub, operator.mul, operator.floordiv, operator.or_, operator.xor,
                 operator.lshift, operator.lt, operator.le, operator.gt, operator.ge, operator.iadd, operator.iand)
        for one, other in itertools.product(things, repeat=2):
            if isinstance(one, mine) or isinstance(other, mine):
                for sign in signs:
                    plain = {operator.iadd: operator.add, operator.iand: operator.and_}.get(sign, sign)
                    if (type(one), type(other), plain) not in described:
                        with self.assertRaises(TypeError, msg=(one, other, sign)):
                            sign(one, other)
                if type(one) is not type(other):
                    self.assertIs(one == other, False)
                    self.assertIs(one != other, True)

    def test_in_is_for_books_alone(self):
        for thing in any_kind() + [(0, 0), BUY]:
            self.assertIs(thing in BOOK, thing == (0, 0))
            for other in (BUY, Live(BOOK, (0, 0))):
                with self.assertRaises(TypeError):
                    thing in other

    def test_the_facts_of_24(self):
        for book, request, other in some_cases(40, 133):
            begin = request.with_modes(("begin", "begin"))
            self.assertEqual(verdict(book, begin)[0], "whole")
            for window in (((0, 0), (1, 0), (1, 1)), ((0, 0), (0, 1), (1, 1), (1, 0), (0, 0), (1, 0))):
                self.assertIs(is_safe(BOOK, (begin,), window), True)
            nobody = book.starting()
            self.assertEqual(verdict(nobody, request), ("whole", ()))
            self.assertIsNone(first_unlike(nobody, request, other))
            self.assertIs(can_do(nobody, request, ()), False)
        tax_first = Book(PAIR, starts=((0, 0),), switches=(((0, 0), (0, 1)), ((0, 1), (1, 1))))
        window = ((0, 0), (0, 1), (1, 1))
        for modes, torn in ((("live", "live"), False), (("live", "begin"), True)):
            self.assertEqual(verdict(tax_first, BUY.with_modes(modes))[0], "torn" if torn else "whole")
            self.assertIs(is_safe(tax_first, (BUY.with_modes(modes),), window), not torn)

    def test_a_request_is_torn_exactly_if_a_window_from_a_start_is(self):
        told = set()
        for rng, book, among in oracle.asking_cases(100, 134, PAIR):
            word, paper = verdict(book, among[0])
            if word == "torn":
                start, moves = paper
                window = (start,) + tuple([move[1] for move in moves if move != GO])
                self.assertIs(is_safe(book, among[:1], window), False)
            told.add(word)
            if word == "whole" and book.starts == GRID:
                for case in range(5):
                    self.assertIs(is_safe(book, among[:1], oracle.random_window(rng, book, 0.8)), True)
        self.assertEqual(told, {"torn", "whole"})


if __name__ == "__main__":
    unittest.main()
