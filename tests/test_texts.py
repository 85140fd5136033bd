"""midswitch/texts.py: books and requests as texts, points [10] to [13], and the conventions."""

import itertools
import random
import re
import unittest

import oracle
from midswitch import texts
from midswitch.books import Book
from midswitch.errors import BadText, SwitchError
from midswitch.requests import MODES, Request
from midswitch.texts import book_text, read_book, read_request, request_text
from samples import GRID, PAIR, PLACES, SWITCH, Checks, any_kind

BOOK = Book(PAIR, starts=((0, 0), (1, 0)), switches=(((0, 0), (1, 0)), ((1, 0), (1, 1))))
BOOK_TEXT = """setting price 1
setting tax 1
start 0,0
start 1,0
switch 0,0 1,0
switch 1,0 1,1"""
REQUEST = Request(PAIR, PLACES, ("live", "begin"))
REQUEST_TEXT = """modes live begin
ask price 1 2
do low 3
do high 3
ask tax 4 5
do old 6
do new 6
end"""
WIDE = (("a", 3), ("bcdefghi", 2))
LONG = "modes live live\n" + "\n".join([f"do a {at + 1}" for at in range(15)] + ["end"])
WRONG_WORDS = ["", " ", "-1", "+1", "01", "00", "1.0", "x", "one", ",", "0,0", "1,", "10 ", "999", "0x1", "1_0", "~"]


def changed(text, number, line):
    """The text with another line in place of the one with this number, from 1; more lines, or none, where it is a list."""
    lines = text.split("\n")
    lines[number - 1:number] = line if isinstance(line, list) else [line]
    return "\n".join(lines)


class TextTest(Checks):

    def book(self, book, text):
        self.assertEqual(book_text(book), text)
        self.assertTrue(read_book(text) == book)

    def request(self, request, text):
        self.assertEqual(request_text(request), text)
        self.assertTrue(read_request(request.settings, text) == request)

    def test_books_by_hand(self):
        self.book(BOOK, BOOK_TEXT)
        self.book(Book(SWITCH), "setting a 1\nstart 0\nstart 1\nswitch 0 1\nswitch 1 0")
        self.book(Book(SWITCH, starts=(), switches=()), "setting a 1")
        self.book(Book(SWITCH, starts=()), "setting a 1\nswitch 0 1\nswitch 1 0")
        self.book(Book(SWITCH, switches=()), "setting a 1\nstart 0\nstart 1")
        self.book(Book((("c", 1), ("b", 2), ("abcdefgh", 1)), starts=((1, 2, 0),), switches=(((0, 2, 1), (1, 0, 0)),)),
                  "setting c 1\nsetting b 2\nsetting abcdefgh 1\nstart 1,2,0\nswitch 0,2,1 1,0,0")
        self.book(Book((("a", 3), ("b", 2)), starts=((3, 2),), switches=(((3, 2), (0, 0)),)),
                  "setting a 3\nsetting b 2\nstart 3,2\nswitch 3,2 0,0")

    def test_requests_by_hand(self):
        self.request(REQUEST, REQUEST_TEXT)
        self.request(Request.straight(PAIR, "pay", "send"), "modes live live\ndo pay 1\ndo send 2\nend")
        self.request(Request(SWITCH, (("end",),)), "modes live\nend")
        self.request(Request(SWITCH, (("do", "abcdefgh", 0),), ("met",)), "modes met\ndo abcdefgh 0")
        self.request(Request((("end", 3),), (("ask", "end", (0, 1, 2, 2)), ("do", "ask", 0), ("do", "do", 1))),
                     "modes live\nask end 0 1 2 2\ndo ask 0\ndo do 1")
        sixteen = Request.straight(PAIR, *("a",) * 15)
        self.request(sixteen, LONG)

    def test_texts_are_read_back(self):
        rng = random.Random(111)
        for settings in (SWITCH, PAIR, (("a", 3),), (("a", 3), ("b", 2)), (("x", 1), ("y", 1), ("z", 2))):
            for case in range(15):
                book = oracle.random_book(rng, settings)
                self.assertTrue(read_book(book_text(book)) == book)
                self.assertEqual(book_text(read_book(book_text(book))), book_text(book))
                request = oracle.random_request(rng, settings, rng.randint(1, 16))
                self.assertTrue(read_request(settings, request_text(request)) == request)

    def test_all_modes(self):
        for modes in itertools.product(MODES, repeat=2):
            self.request(Request(PAIR, (("end",),), modes), "modes " + " ".join(modes) + "\nend")

    def test_no_line_feed_at_the_end(self):
        for text in (book_text(BOOK), request_text(REQUEST)):
            self.assertNotIn(text[-1], " \n")


class BadBookTest(Checks):

    def wrong(self, line, text):
        self.refused(BadText, "line", line, read_book, text)

    def test_values_that_are_no_string(self):
        for thing in any_kind() + [BOOK, b"setting a 1", ["setting a 1"], ("setting a 1",)]:
            if not isinstance(thing, str):
                self.wrong(None, thing)

    def test_the_empty_text(self):
        self.wrong(1, "")
        self.wrong(1, "\n")
        self.wrong(1, "\nsetting a 1")
        self.wrong(1, " ")

    def test_a_wrong_line_in_place_of_each(self):
        wrong = ["", " ", "setting", "start", "switch", "end", "modes live live", "SETTING a 1", "settings a 1",
                 "setting a 1 ", " setting a 1", "setting  a 1", "setting a  1", "setting a\t1", "setting a", "setting 1",
                 "setting a 1 1", "setting A 1", "setting abcdefghi 1", "setting a1 1", "setting  1", "setting a 0",
                 "setting a 4", "setting a 01", "setting a 10", "setting a +1", "setting a -1", "setting a x",
                 "start 0,0 ", "start  0,0", " start 0,0", "start", "start ", "start 0,0,0", "start 0,2",
                 "start 2,0", "start 00,0", "start 0,", "start ,0", "start 0, 0", "start 0 0", "start 0,0 1,0",
                 "start -0,0", "start 0,+0", "start (0,0)", "start 0;0", "Start 0,0", "starts 0,0",
                 "switch 0,0", "switch 0,0  1,0", "switch 0,0 1,0 ", "switch 0,0 1,0 1,1", "switch 0,0 0,0",
                 "switch 0,0 1", "switch 0,0 2,0", "switch 2,0 0,0", "switch 0,0 01,0", "switch 0,0,1,0",
                 "switch ,, ,", "switch 0,0 -1,0", "Switch 0,0 1,0"]
        for number in range(1, 7):
            for line in wrong:
                self.wrong(number, changed(BOOK_TEXT, number, line))
                self.wrong(number, changed(BOOK_TEXT, number, [line, "x"]))
        for number in range(3, 7):
            self.wrong(number, changed(BOOK_TEXT, number, "start 0"))
            self.wrong(number, changed(BOOK_TEXT, number, "switch 0 1"))

    def test_wrong_words(self):
        for word in WRONG_WORDS:
            self.wrong(1, changed(BOOK_TEXT, 1, f"setting a {word}"))
            self.wrong(2, changed(BOOK_TEXT, 2, f"setting a {word}"))
            self.wrong(1, f"setting {word} 1" if word not in ("x", "one") else "")
            for line in (f"start {word},0", f"start 0,{word}"):
                self.wrong(3, changed(BOOK_TEXT, 3, line))
            for line in (f"switch {word},0 1,0", f"switch 0,0 {word},0", f"switch 0,0 1,{word}"):
                self.wrong(5, changed(BOOK_TEXT, 5, line))

    def test_a_line_too_many_and_line_feeds(self):
        for more in ("", " ", "x", "end", "switch 1,0 1,1", "start 1,1", "setting c 1"):
            self.wrong(7, BOOK_TEXT + "\n" + more)
        for number in range(1, 7):
            self.wrong(number, changed(BOOK_TEXT, number, ["", BOOK_TEXT.split("\n")[number - 1]]))
        self.wrong(2, "setting a 1\n")
        self.wrong(1, BOOK_TEXT.replace("\n", " "))

    def test_lines_in_another_order(self):
        self.wrong(1, "start 0\nsetting a 1")
        self.wrong(1, "switch 0 1\nsetting a 1")
        self.wrong(3, "setting a 1\nstart 0\nsetting b 1")
        self.wrong(3, "setting a 1\nswitch 0 1\nsetting b 1")
        self.wrong(3, "setting a 1\nswitch 0 1\nstart 0")
        self.wrong(4, "setting a 1\nstart 0\nswitch 0 1\nstart 1")

    def test_a_name_twice(self):
        self.wrong(2, "setting a 1\nsetting a 1")
        self.wrong(3, "setting a 1\nsetting b 1\nsetting a 2")
        self.wrong(3, "setting a 1\nsetting b 1\nsetting b 1\nstart 5")

    def test_a_fourth_setting(self):
        self.wrong(4, "setting a 1\nsetting b 1\nsetting c 1\nsetting d 1")
        self.wrong(4, "setting a 1\nsetting b 1\nsetting c 2\nsetting d 1\nstart 0,0,0")

    def test_more_than_twelve_standings(self):
        self.wrong(2, "setting a 3\nsetting b 3")
        self.wrong(3, "setting a 1\nsetting b 3\nsetting c 1")
        self.wrong(3, "setting a 2\nsetting b 1\nsetting c 2")
        self.wrong(2, "setting a 3\nsetting b 3\nsetting b 1")
        self.assertEqual(len(read_book("setting a 3\nsetting b 2")), 12)
        self.assertEqual(len(read_book("setting a 1\nsetting b 1\nsetting c 2")), 12)

    def test_starts_that_do_not_ascend(self):
        self.wrong(4, changed(BOOK_TEXT, 4, "start 0,0"))
        self.wrong(5, changed(BOOK_TEXT, 4, ["start 1,0", "start 0,1"]))
        self.wrong(4, changed(BOOK_TEXT, 3, ["start 1,1", "start 1,0"]))

    def test_switches_that_do_not_ascend(self):
        self.wrong(6, changed(BOOK_TEXT, 6, "switch 0,0 1,0"))
        self.wrong(6, changed(BOOK_TEXT, 6, "switch 0,0 0,1"))
        self.wrong(6, changed(BOOK_TEXT, 5, ["switch 1,1 0,0", "switch 1,0 1,1"]))

    def test_the_first_of_several(self):
        text = changed(changed(BOOK_TEXT, 6, "x"), 3, "start 0,2")
        self.wrong(3, text)
        self.wrong(2, changed(text, 2, "setting price 1"))
        self.wrong(1, changed(text, 1, "setting price 0"))

    def test_a_standing_of_other_settings(self):
        self.wrong(2, "setting a 1\nstart 0,0")
        self.wrong(4, "setting a 1\nsetting b 1\nsetting c 1\nstart 0,0")
        self.wrong(2, "setting a 1\nswitch 0,0 0,1")

    def test_it_is_a_switch_error(self):
        with self.assertRaises(SwitchError):
            read_book("")


class BadRequestTest(Checks):

    def wrong(self, line, text, settings=PAIR):
        self.refused(BadText, "line", line, read_request, settings, text)

    def test_values_that_are_no_string(self):
        for thing in any_kind() + [REQUEST, b"modes live live\nend", ["modes live live", "end"]]:
            if not isinstance(thing, str):
                self.wrong(None, thing)

    def test_the_empty_text(self):
        self.wrong(1, "")
        self.wrong(1, "\n")
        self.wrong(1, "\nmodes live live\nend")

    def test_lines_that_are_missing(self):
        self.wrong(2, "modes live live")
        self.wrong(2, "modes live", SWITCH)
        self.wrong(1, "end")
        self.wrong(2, "modes live live\n")

    def test_the_line_of_modes(self):
        for line in ("", "modes", "modes live", "modes live live live", "modes  live live", "modes live  live",
                     "modes live live ", " modes live live", "mode live live", "Modes live live", "modes live Live",
                     "modes lives live", "modes live none", "modes live,live", "modes 0 0", "modes livelive", "end",
                     "ask price 1 2"):
            self.wrong(1, changed(REQUEST_TEXT, 1, line))
            self.wrong(1, line)
        self.wrong(1, "modes live live\nend", SWITCH)
        self.wrong(1, "modes live\nend", PAIR)

    def test_a_wrong_line_in_place_of_each(self):
        wrong = ["", " ", "modes live live", "do", "ask", "end ", " end", "End", "ends", "end end", "end 0", "do low",
                 "do 3", "do low 3 ", "do  low 3", "do low  3", " do low 3", "do low 3 3", "Do low 3", "do Low 3",
                 "do lowlowlow 3", "do low3 3", "do  3", "do low -1", "do low +3", "do low 03", "do low 00", "do low 100",
                 "do low 016", "do low x", "do low 3,", "do low 1x", "do low x1", "do low 3.", "ask price", "ask price 1",
                 "ask price 1 2 3", "ask price  1 2", "ask price 1  2", "ask price 1 2 ", " ask price 1 2",
                 "Ask price 1 2", "ask rate 1 2", "ask Price 1 2", "ask 1 2", "ask price 1,2", "ask price 1 02",
                 "ask price 00 1", "ask price 1 -2", "ask price 1 100", "ask price 1 x", "ask  1 2", "go", "start 0,0"]
        for number in range(2, 9):
            for line in wrong:
                self.wrong(number, changed(REQUEST_TEXT, number, line))
                self.wrong(number, changed(REQUEST_TEXT, number, [line, "x"]))

    def test_wrong_words(self):
        for word in WRONG_WORDS:
            for line in (f"do low {word}", f"ask price {word} 1", f"ask price 1 {word}"):
                self.wrong(3, changed(REQUEST_TEXT, 3, line))
            if word not in ("x", "one"):
                self.wrong(3, changed(REQUEST_TEXT, 3, f"do {word} 3"))
            self.wrong(3, changed(REQUEST_TEXT, 3, f"ask {word} 1 2"))

    def test_a_number_for_each_value(self):
        settings = (("a", 1), ("b", 2), ("c", 1))
        for name, most in settings:
            for many in range(6):
                text = "modes live live live\n" + " ".join(["ask", name] + ["0"] * many)
                if many == most + 1:
                    self.assertEqual(read_request(settings, text).places, (("ask", name, (0,) * many),))
                else:
                    self.wrong(2, text, settings)

    def test_a_line_too_many(self):
        for more in ("", " ", "x", "modes live live", "end "):
            self.wrong(9, REQUEST_TEXT + "\n" + more)
        self.wrong(1, REQUEST_TEXT.replace("\n", " "))
        self.wrong(3, changed(REQUEST_TEXT, 3, ["", "do low 3"]))

    def test_a_17th_place(self):
        self.assertEqual(len(read_request(PAIR, LONG)), 16)
        for line in ("end", "do a 0", "x", "", "do a 99"):
            self.wrong(18, LONG + "\n" + line)
            self.wrong(18, LONG + "\n" + line + "\nend\nx")
        self.wrong(17, changed(LONG, 17, "x") + "\nend")

    def test_a_number_beyond_the_last_place(self):
        for number in (7, 8, 10, 16, 99):
            self.wrong(3, changed(REQUEST_TEXT, 3, f"do low {number}"))
            self.wrong(2, changed(REQUEST_TEXT, 2, f"ask price {number} 0"))
            self.wrong(5, changed(REQUEST_TEXT, 5, f"ask tax 0 {number}"))
        self.wrong(2, "modes live live\ndo a 1")
        self.assertEqual(read_request(PAIR, "modes live live\ndo a 1\nend").places, (("do", "a", 1), ("end",)))
        self.wrong(17, changed(LONG, 17, "do a 16"))
        self.assertEqual(read_request(PAIR, changed(LONG, 17, "do a 15")).places[15], ("do", "a", 15))

    def test_the_first_place_that_goes_beyond(self):
        text = changed(changed(REQUEST_TEXT, 7, "do new 99"), 3, "do low 7")
        self.wrong(3, text)
        self.wrong(2, changed(text, 2, "ask price 99 7"))
        self.wrong(7, changed(text, 3, "do low 6"))

    def test_it_stands_behind_all_other_faults(self):
        beyond = changed(REQUEST_TEXT, 2, "ask price 99 7")
        self.wrong(2, beyond)
        self.wrong(8, changed(beyond, 8, "ends"))
        self.wrong(9, beyond + "\n")
        self.wrong(3, changed(beyond, 3, "do low 100"))
        self.wrong(1, changed(beyond, 1, "modes live"))
        self.wrong(18, changed(LONG, 2, "do a 99") + "\nend")
        self.wrong(2, changed(LONG, 2, "do a 99"))

    def test_the_first_of_several(self):
        text = changed(changed(REQUEST_TEXT, 8, "x"), 4, "y")
        self.wrong(4, text)
        self.wrong(2, changed(text, 2, "z"))
        self.wrong(1, changed(text, 1, ""))


class AtRandomTest(Checks):

    NUMBER = "(0|[1-9][0-9]?)"

    def first_wrong_of_book(self, text):
        """The number of the first line that cannot stand there, or None: told by the lines up to it alone."""
        lines = text.split("\n")
        for many in range(1, len(lines) + 1):
            if not self.is_book(lines[:many]):
                return many
        return None

    def is_book(self, lines):
        found = [re.fullmatch("setting ([a-z]{1,8}) ([1-3])", line) for line in lines]
        many = found.index(None) if None in found else len(lines)
        names = [match[1] for match in found[:many]]
        standings = 1
        for match in found[:many]:
            standings *= int(match[2]) + 1
        if not 1 <= many <= 3 or len(set(names)) < many or standings > 12:
            return False
        standing = ",".join([f"[0-{match[2]}]" for match in found[:many]])
        shape = "".join(["s" if re.fullmatch("start " + standing, line) else
                         "w" if re.fullmatch(f"switch {standing} {standing}", line) else "-" for line in lines[many:]])
        starts = [line for line in lines if line.startswith("start")]
        switches = [line for line in lines if line.startswith("switch")]
        return (re.fullmatch("s*w*", shape) is not None and sorted(set(starts)) == starts
                and sorted(set(switches)) == switches
                and not any([line.split(" ")[1] == line.split(" ")[2] for line in switches]))

    def first_wrong_of_request(self, settings, text):
        lines = text.split("\n")
        if not re.fullmatch("modes" + " (live|met|begin)" * len(settings), lines[0]):
            return 1
        kinds = ["end", "do [a-z]{1,8} " + self.NUMBER]
        kinds += [f"ask {name}" + f" {self.NUMBER}" * (most + 1) for name, most in settings]
        for at, line in enumerate(lines[1:], start=2):
            if at > 17 or not any([re.fullmatch(kind, line) for kind in kinds]):
                return at
        for at, line in enumerate(lines[1:], start=2):
            if [number for number in re.findall("[0-9]+", line) if int(number) >= len(lines) - 1]:
                return at
        return 2 if len(lines) == 1 else None

    def spoiled(self, rng, text):
        """The text with a few changes: letters, words or lines left out, twice, put elsewhere or otherwise."""
        for change in range(rng.randint(0, 3) if text else 0):
            parts = re.split("( |\n)", text) if rng.random() < 0.6 else list(text)
            if rng.random() < 0.5:
                parts = re.split("(\n)", text)
            at, other = rng.randrange(len(parts)), rng.randrange(len(parts))
            kind = rng.randrange(4)
            if kind == 0:
                parts[at] = ""
            elif kind == 1:
                parts[at] += parts[other]
            elif kind == 2:
                parts[at], parts[other] = parts[other], parts[at]
            else:
                parts[at] = rng.choice(["0", "1", "7", "12", "a", " ", "\n", "end", "0,1", "start"])
            text = "".join(parts) or "\n"
        return text

    def test_books(self):
        rng = random.Random(112)
        told = {}
        for case in range(1500):
            settings = rng.choice((SWITCH, PAIR, (("a", 3), ("b", 2)), (("x", 1), ("y", 1), ("z", 2))))
            few = oracle.random_book(rng, settings)
            text = self.spoiled(rng, book_text(Book(settings, starts=few.starts[:3], switches=few.switches[:4])))
            line = self.first_wrong_of_book(text)
            if line is None:
                self.assertEqual(book_text(read_book(text)), text)
            else:
                self.refused(BadText, "line", line, read_book, text)
            told[line] = told.get(line, 0) + 1
        for line in (None, 1, 2, 3, 4, 5, 6):
            self.assertGreater(told.get(line, 0), 20, told)

    def test_requests(self):
        rng = random.Random(114)
        told = {}
        for case in range(4000):
            settings = rng.choice((SWITCH, PAIR, (("a", 3), ("b", 2)), (("x", 1), ("y", 1), ("z", 2))))
            text = self.spoiled(rng, request_text(oracle.random_request(rng, settings, rng.choice((2, 7, 16)))))
            line = self.first_wrong_of_request(settings, text)
            if line is None:
                self.assertEqual(request_text(read_request(settings, text)), text)
            else:
                self.refused(BadText, "line", line, read_request, settings, text)
            told[line] = told.get(line, 0) + 1
        for line in (None, 1, 2, 3, 4, 5, 6, 17, 18):
            self.assertGreater(told.get(line, 0), 1, told)


class ConventionsTest(Checks):

    def test_names_of_parameters(self):
        self.assertEqual(book_text(book=BOOK), BOOK_TEXT)
        self.assertEqual(request_text(request=REQUEST), REQUEST_TEXT)
        self.assertTrue(read_book(text=BOOK_TEXT) == BOOK)
        self.assertTrue(read_request(text=REQUEST_TEXT, settings=PAIR) == REQUEST)

    def test_fields_are_tuples(self):
        book, request = read_book(BOOK_TEXT), read_request(PAIR, REQUEST_TEXT)
        self.assertEqual((book.settings, book.starts, book.switches), (BOOK.settings, BOOK.starts, BOOK.switches))
        self.assertEqual((request.settings, request.places, request.modes), (PAIR, PLACES, ("live", "begin")))

    def test_equal_calls_return_equal_results(self):
        self.refused(BadText, "line", 1, read_book, "x")
        for case in range(2):
            self.assertTrue(read_book(BOOK_TEXT) == BOOK and read_request(PAIR, REQUEST_TEXT) == REQUEST)

    def test_functions_stand_in_this_file(self):
        for function in (book_text, request_text, read_book, read_request):
            self.assertEqual(function.__module__, texts.__name__)


if __name__ == "__main__":
    unittest.main()
