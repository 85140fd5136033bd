"""Texts of books and requests, line by line, points [10] to [13]."""

from midswitch.books import Book, is_switch
from midswitch.errors import BadSettings, BadText
from midswitch.requests import END, MOST_PLACES, Request, is_mode
from midswitch.settings import is_name, is_standing, need_settings, order_of

DIGITS = "0123456789"


def book_text(book):
    """The lines of a book."""
    lines = [f"setting {name} {most}" for name, most in book.settings]
    lines += [f"start {standing_word(start)}" for start in book.starts]
    lines += [f"switch {standing_word(first)} {standing_word(second)}" for first, second in book.switches]
    return "\n".join(lines)


def request_text(request):
    """The lines of a request."""
    return "\n".join([" ".join(["modes", *request.modes]), *[place_line(place) for place in request.places]])


def read_book(text):
    """The book with these lines."""
    settings, starts, switches = (), (), ()
    for at, words in enumerate(lines_of(text), start=1):
        # Lines of another kind stand ahead of this one or behind it: no setting behind a start, and the like.
        if words[0] == "setting" and starts == () and switches == ():
            settings = with_setting(settings, words)
        elif words[0] == "start" and switches == ():
            starts = with_start(settings, starts, words)
        elif words[0] == "switch":
            switches = with_switch(settings, switches, words)
        else:
            raise BadText(at)
        if settings is None or starts is None or switches is None:
            raise BadText(at)
    return Book(settings, starts=starts, switches=switches)


def read_request(settings, text):
    """The request of these settings with these lines."""
    lines = lines_of(text)
    if not is_modes_line(settings, lines[0]):
        raise BadText(1)
    places = []
    for at, words in enumerate(lines[1:], start=2):
        place = place_in(settings, words)
        if place is None or len(places) == MOST_PLACES:
            raise BadText(at)
        places.append(place)
    if len(places) == 0:
        raise BadText(2)
    for at, place in enumerate(places, start=2):
        if max(numbers_in(place), default=0) >= len(places):
            raise BadText(at)
    return Request(settings, tuple(places), tuple(lines[0][1:]))


def lines_of(text):
    """A list with the words of each line."""
    if not isinstance(text, str):
        raise BadText(None)
    return [line.split(" ") for line in text.split("\n")]


def with_setting(settings, words):
    """The settings and the one of this line, or None if it cannot stand there."""
    if len(words) != 3 or not is_figure(words[2]):
        return None
    more = (*settings, (words[1], int(words[2])))
    try:
        return need_settings(more)
    except BadSettings:
        return None


def with_start(settings, starts, words):
    """The starts and the one of this line, or None if it cannot stand there."""
    if len(words) != 2:
        return None
    start = standing_in(words[1])
    if not is_standing(settings, start) or (starts != () and start <= starts[-1]):
        return None
    return (*starts, start)


def with_switch(settings, switches, words):
    """The switches and the one of this line, or None if it cannot stand there."""
    if len(words) != 3:
        return None
    switch = (standing_in(words[1]), standing_in(words[2]))
    if not is_switch(settings, switch) or (switches != () and switch <= switches[-1]):
        return None
    return (*switches, switch)


def standing_word(standing):
    """The word of a standing."""
    return ",".join([str(value) for value in standing])


def standing_in(word):
    """The tuple of the integers of a word, or None if they are not one figure each."""
    figures = word.split(",")
    if not all([is_figure(figure) for figure in figures]):
        return None
    return tuple([int(figure) for figure in figures])


def is_figure(word):
    """Whether a word is an integer of one figure."""
    return len(word) == 1 and word in DIGITS


def is_modes_line(settings, words):
    """Whether these are the words of the line of modes."""
    return words[0] == "modes" and len(words) == len(settings) + 1 and all([is_mode(word) for word in words[1:]])


def place_line(place):
    """The line of a place."""
    return " ".join([*place[:2], *[str(number) for number in numbers_in(place)]])


def numbers_in(place):
    """A list of the numbers of places that stand in a place."""
    if place[0] == "do":
        return [place[2]]
    return list(place[2]) if place[0] == "ask" else []


def place_in(settings, words):
    """The place of a line, its numbers as large as they may be, or None if it cannot stand there."""
    if words == ["end"]:
        return END
    if len(words) < 3 or not all([is_number_word(word) for word in words[2:]]):
        return None
    numbers = tuple([int(word) for word in words[2:]])
    if words[0] == "do" and is_name(words[1]) and len(numbers) == 1:
        return ("do", words[1], numbers[0])
    order = order_of(settings)
    if words[0] == "ask" and words[1] in order and len(numbers) == settings[order[words[1]]][1] + 1:
        return ("ask", words[1], numbers)
    return None


def is_number_word(word):
    """Whether a word is an integer of one or two figures, without a needless zero."""
    return is_figure(word) or (len(word) == 2 and is_figure(word[0]) and is_figure(word[1]) and word[0] != "0")
