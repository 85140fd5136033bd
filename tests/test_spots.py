"""midswitch/spots.py: sets of situations behind all runs with one row, held against a slow account of point [15]."""

import random
import unittest

import oracle
from midswitch.books import Book
from midswitch.requests import Request
from midswitch.spots import Spots, numbers_in
from samples import PAIR, PLACES, SWITCH, TWICE, Checks


def situations(book, spots, here):
    """All situations of a set of spots."""
    found = set()
    for number in numbers_in(here):
        group, kept = spots.sides[number // spots.many]
        found |= {(number % spots.many, standing, kept) for standing in book.grid if book.groups[0][standing] == group}
    return found


def slow_situations(request, found):
    """The situations that the oracle found, with what is kept as a tuple."""
    return {(place, standing, tuple([dict(read).get(name, -1) for name in oracle.names(request)]))
            for place, standing, read in found}


class SpotsTest(Checks):

    def walked(self, book, request, rng, most):
        """Goes by some deeds from the starts on; returns how many sets there were that are not empty."""
        spots = Spots(book, request)
        here = spots.first
        slow = oracle.situations_behind(book, request, [oracle.State(book, request, start) for start in book.starts])
        names = sorted({place[1] for place in request.places if place[0] == "do"})
        for step in range(most):
            self.assertEqual(situations(book, spots, here), slow_situations(request, slow))
            self.assertIs(here & spots.ends != 0,
                          any(request.places[place] == ("end",) for place, standing, read in slow))
            ways = spots.behind_deeds(here)
            after = {name: oracle.situations_behind(book, request, list(slow.values()), name) for name in names}
            self.assertEqual(sorted(ways), [name for name in names if after[name]])
            for name in names + ["other"]:
                self.assertEqual(spots.behind_deed(here, name), ways.get(name, 0))
            if not ways:
                return step
            name = rng.choice(sorted(ways))
            here, slow = ways[name], after[name]
        return most

    def test_against_a_slow_account(self):
        rng = random.Random(161)
        some = [self.walked(book, request, rng, 5) for book, request in oracle.random_cases(1000, 162)]
        self.assertGreater(some.count(5), 20)

    def test_books_of_many_standings(self):
        rng = random.Random(163)
        some = [self.walked(book, request, rng, 3) for book, request in oracle.wide_cases(150, 164)]
        self.assertGreater(some.count(3), 5)

    def test_requests_that_ask_twice(self):
        for rng, book, requests in oracle.asking_cases(150, 165):
            self.walked(book, requests[0], rng, 4)

    def test_a_group_is_counted_as_one_standing(self):
        spots = Spots(Book(PAIR), Request(PAIR, PLACES))
        self.assertEqual((spots.sides, numbers_in(spots.first)), ([(0, (-1, -1))], [2, 1, 0]))
        spots = Spots(Book(PAIR, switches=()), Request(PAIR, PLACES))
        self.assertEqual([group for group, kept in spots.sides], [0, 1, 2, 3])
        spots = Spots(Book(SWITCH), Request(SWITCH, TWICE, ("begin",)))
        self.assertEqual(spots.sides, [(0, (0,)), (0, (1,))])

    def test_no_starts(self):
        spots = Spots(Book(PAIR, starts=()), Request(PAIR, PLACES))
        self.assertEqual((spots.first, spots.behind_deeds(0), spots.behind_deed(0, "low")), (0, {}, 0))

    def test_numbers_in(self):
        self.assertEqual(numbers_in(0), [])
        self.assertEqual(numbers_in(1 << 700 | 5), [700, 2, 0])


if __name__ == "__main__":
    unittest.main()
