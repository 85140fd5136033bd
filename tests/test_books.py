"""midswitch/books.py: books, point [11], and the conventions that concern them."""

import inspect
import unittest

from midswitch.books import Book
from midswitch.errors import BadSettings, BadStanding, BadStarts, BadSwitches
from midswitch.requests import Request
from midswitch.settings import standings
from samples import GRID, NEAR, OTHER_PAIR, PAIR, PLACES, any_kind, without_tuples

STARTS = ((0, 0), (1, 0))
SWITCHES = (((0, 0), (1, 0)), ((0, 0), (1, 1)), ((1, 0), (1, 1)))


def fields(book):
    return (book.settings, book.starts, book.switches)


class BookTest(unittest.TestCase):

    def refused(self, error, place, *args, **more):
        with self.assertRaises(error) as caught:
            Book(*args, **more)
        self.assertEqual(caught.exception.place, place, (args, more))
        self.assertNotIsInstance(caught.exception.place, bool)

    def test_left_out(self):
        self.assertEqual(fields(Book(PAIR)), (PAIR, GRID, NEAR))
        self.assertEqual(fields(Book(settings=PAIR, starts=None, switches=None)), (PAIR, GRID, NEAR))
        book = Book((("a", 3),))
        self.assertEqual(book.starts, ((0,), (1,), (2,), (3,)))
        self.assertEqual(book.switches, (((0,), (1,)), ((1,), (0,)), ((1,), (2,)), ((2,), (1,)), ((2,), (3,)),
                                         ((3,), (2,))))

    def test_near_pairs_of_several_settings(self):
        settings = (("a", 1), ("b", 2), ("c", 1))
        expected = []
        for first in standings(settings):
            for at in range(3):
                for by in (-1, 1):
                    second = first[:at] + (first[at] + by,) + first[at + 1:]
                    if 0 <= second[at] <= settings[at][1]:
                        expected.append((first, second))
        self.assertEqual(Book(settings).switches, tuple(sorted(expected)))

    def test_given(self):
        self.assertEqual(fields(Book(PAIR, starts=STARTS, switches=SWITCHES)), (PAIR, STARTS, SWITCHES))
        self.assertEqual(fields(Book(PAIR, starts=(), switches=())), (PAIR, (), ()))
        self.assertEqual(fields(Book(PAIR, starts=STARTS)), (PAIR, STARTS, NEAR))
        self.assertEqual(fields(Book(PAIR, switches=SWITCHES)), (PAIR, GRID, SWITCHES))

    def test_starts_and_switches_are_passed_by_name_alone(self):
        with self.assertRaises(TypeError):
            Book(PAIR, STARTS)
        kinds = [parameter.kind for parameter in inspect.signature(Book).parameters.values()]
        named = inspect.Parameter.KEYWORD_ONLY
        self.assertEqual(kinds, [inspect.Parameter.POSITIONAL_OR_KEYWORD, named, named])

    def test_bad_settings(self):
        for thing in without_tuples(any_kind()):
            self.refused(BadSettings, None, thing)
        self.refused(BadSettings, 1, (("a", 1), ("a", 1)), starts=3, switches=3)
        self.refused(BadSettings, "many", (("a", 3), ("b", 3)))

    def test_bad_starts(self):
        for thing in without_tuples(any_kind()):
            if thing is not None:
                self.refused(BadStarts, None, PAIR, starts=thing)
        self.refused(BadStarts, None, PAIR, starts=list(STARTS))
        for item in any_kind() + [(0, 2), (0,), (0, 0, 0), (True, True), [1, 1], (-1, 0)]:
            self.refused(BadStarts, 0, PAIR, starts=(item,))
            self.refused(BadStarts, 1, PAIR, starts=((0, 0), item, (0, 0)))
            self.refused(BadStarts, 3, PAIR, starts=((0, 0), (0, 1), (1, 0), item))

    def test_starts_that_do_not_ascend(self):
        self.refused(BadStarts, 1, PAIR, starts=((0, 0), (0, 0)))
        self.refused(BadStarts, 1, PAIR, starts=((1, 0), (0, 1)))
        self.refused(BadStarts, 2, PAIR, starts=((0, 0), (1, 0), (0, 1), 7))
        self.refused(BadStarts, 2, PAIR, starts=((0, 0), (1, 1), (1, 1)))

    def test_bad_switches(self):
        for thing in without_tuples(any_kind()):
            if thing is not None:
                self.refused(BadSwitches, None, PAIR, switches=thing)
        self.refused(BadSwitches, None, PAIR, switches=list(SWITCHES))
        wrong = [(0, 0), ((0, 0), (0, 0)), ((1, 0),), ((0, 0), (0, 1), (1, 1)), [(0, 0), (1, 0)], ((0, 0), (2, 0)),
                 ((2, 0), (0, 0)), ((1, 1), (True, False)), ((1, 1), [0, 0]), ((0, 1), None), ((True, 1), (0, 0))]
        for item in any_kind() + wrong:
            self.refused(BadSwitches, 0, PAIR, switches=(item,))
            self.refused(BadSwitches, 1, PAIR, switches=(((0, 0), (0, 1)), item, ((0, 0), (0, 1))))

    def test_switches_that_do_not_ascend(self):
        self.refused(BadSwitches, 1, PAIR, switches=(NEAR[0], NEAR[0]))
        self.refused(BadSwitches, 1, PAIR, switches=(NEAR[1], NEAR[0], None))
        self.refused(BadSwitches, 2, PAIR, switches=(NEAR[0], NEAR[4], NEAR[3]))

    def test_bad_starts_come_before_bad_switches(self):
        self.refused(BadStarts, None, PAIR, starts=3, switches=3)
        self.refused(BadStarts, 0, PAIR, starts=(3,), switches=3)

    def test_len(self):
        self.assertEqual(len(Book(PAIR)), 4)
        self.assertEqual(len(Book(PAIR, starts=(), switches=())), 4)
        self.assertEqual(len(Book((("a", 1),))), 2)
        self.assertEqual(len(Book((("a", 3), ("b", 2)))), 12)

    def test_in(self):
        book = Book(PAIR, starts=(), switches=())
        for standing in GRID:
            self.assertIs(standing in book, True)
        for thing in any_kind() + [(0, 2), (True, 0), [0, 0], (0,), (0, 0, 0), book]:
            self.assertIs(thing in book, False)
            self.assertIs(thing not in book, True)

    def test_after(self):
        book = Book(PAIR, switches=SWITCHES)
        self.assertEqual(book.after((0, 0)), ((1, 0), (1, 1)))
        self.assertEqual(book.after((1, 0)), ((1, 1),))
        self.assertEqual(book.after(standing=(1, 1)), ())
        self.assertEqual(Book((("a", 3),)).after((2,)), ((1,), (3,)))

    def test_after_of_another_value(self):
        book = Book(PAIR)
        for thing in any_kind() + [(0, 2), (True, 0), [0, 0]]:
            with self.assertRaises(BadStanding) as caught:
                book.after(thing)
            self.assertIs(caught.exception.value, thing)

    def test_equal(self):
        book = Book(PAIR)
        for other, equal in (
            (Book(PAIR), True), (Book(PAIR, starts=GRID, switches=NEAR), True), (Book(OTHER_PAIR), False),
            (Book(PAIR, starts=GRID[1:]), False), (Book(PAIR, switches=NEAR[1:]), False),
            (Book((("tax", 1), ("price", 1))), False),
        ):
            self.assertIs(book == other, equal)
            self.assertIs(book != other, not equal)
        self.assertIs(Book(PAIR, starts=(), switches=()) == Book(OTHER_PAIR, starts=(), switches=()), False)

    def test_other_values_are_not_equal(self):
        book = Book(PAIR)
        for other in any_kind() + [PAIR, (PAIR, GRID, NEAR), Request(PAIR, PLACES)]:
            self.assertIs(book == other, False)
            self.assertIs(book != other, True)
            self.assertIs(other == book, False)
            self.assertIs(other != book, True)

    def test_starting(self):
        book = Book(PAIR, starts=STARTS, switches=SWITCHES)
        self.assertEqual(fields(book.starting((1, 1), (0, 1), (0, 0))), (PAIR, ((0, 0), (0, 1), (1, 1)), SWITCHES))
        self.assertEqual(fields(book.starting()), (PAIR, (), SWITCHES))
        self.assertEqual(fields(book), (PAIR, STARTS, SWITCHES))
        self.assertIsInstance(book.starting(), Book)

    def test_starting_with_other_values(self):
        book = Book(PAIR)
        for thing in any_kind() + [(0, 2), (True, 0), [0, 0]]:
            for starts, place in (((thing,), 0), (((1, 1), thing, (1, 1)), 1), (((1, 1), (0, 0), thing, None), 2)):
                with self.assertRaises(BadStarts) as caught:
                    book.starting(*starts)
                self.assertEqual(caught.exception.place, place)
        for starts, place in ((((0, 0), (0, 0)), 1), (((1, 1), (0, 0), (1, 1), None), 2)):
            with self.assertRaises(BadStarts) as caught:
                book.starting(*starts)
            self.assertEqual(caught.exception.place, place)

    def test_and(self):
        one = Book(PAIR, starts=((0, 0), (0, 1), (1, 1)), switches=SWITCHES)
        other = Book(PAIR, starts=((0, 1), (1, 0), (1, 1)), switches=NEAR)
        both = (PAIR, ((0, 1), (1, 1)), (SWITCHES[0], SWITCHES[2]))
        self.assertEqual(fields(one & other), both)
        self.assertEqual(fields(other & one), both)
        self.assertEqual(fields(one), (PAIR, ((0, 0), (0, 1), (1, 1)), SWITCHES))
        self.assertEqual(fields(other), (PAIR, ((0, 1), (1, 0), (1, 1)), NEAR))
        self.assertEqual(fields(one & Book(PAIR, starts=(), switches=())), (PAIR, (), ()))
        self.assertTrue(one & one == one)

    def test_and_in_place_makes_a_new_book(self):
        book = same = Book(PAIR)
        book &= Book(PAIR, starts=STARTS)
        self.assertEqual(book.starts, STARTS)
        self.assertEqual(same.starts, GRID)

    def test_and_of_other_settings(self):
        for settings in (OTHER_PAIR, (("tax", 1), ("price", 1)), (("price", 1),)):
            with self.assertRaises(BadSettings) as caught:
                Book(PAIR) & Book(settings)
            self.assertIsNone(caught.exception.place)

    def test_operators_with_other_values(self):
        book = Book(PAIR)
        for other in any_kind() + [Request(PAIR, PLACES), GRID]:
            with self.assertRaises(TypeError):
                book & other
            with self.assertRaises(TypeError):
                other & book
        for made in (lambda: book + book, lambda: book | book, lambda: book < book, lambda: book - book,
                     lambda: book + Request(PAIR, PLACES), lambda: Request(PAIR, PLACES) & book):
            self.assertRaises(TypeError, made)

    def test_books_are_not_iterated_over(self):
        with self.assertRaises(TypeError):
            iter(Book(PAIR))
        with self.assertRaises(TypeError):
            list(Book(PAIR))

    def test_no_call_changes_a_book(self):
        book = Book(PAIR, starts=STARTS, switches=SWITCHES)
        book.after((0, 0))
        book.starting((1, 1))
        book & Book(PAIR)
        (0, 0) in book
        with self.assertRaises(BadStarts):
            book.starting((1, 1), None)
        self.assertEqual(fields(book), (PAIR, STARTS, SWITCHES))

    def test_equal_calls_return_equal_results(self):
        self.assertTrue(Book(PAIR).starting((1, 1)) == Book(PAIR).starting((1, 1)))
        self.assertEqual(Book(PAIR).after((0, 1)), Book(PAIR).after((0, 1)))

    def test_methods_stand_in_the_class(self):
        for name in ("__init__", "__len__", "__contains__", "__eq__", "__and__", "after", "starting"):
            self.assertIn(name, vars(Book))
        self.assertEqual(Book.__module__, "midswitch.books")


if __name__ == "__main__":
    unittest.main()
