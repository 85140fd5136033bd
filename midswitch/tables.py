"""Nodes of a request, the table of all of them, and the crossed places, points [17] to [20]."""

from midswitch.charts import (ENDED, Chart, code_of, first_code, first_spot, goer, match_parts, nodes_of, spot_parts,
                              ways_to_codes)
from midswitch.errors import BadNode
from midswitch.requests import END, is_number
from midswitch.settings import is_int
from midswitch.steps import UNREAD

MOST_NODES = 600


def start_nodes(book, request):
    """The nodes of all starts, ascending."""
    chart = Chart(book, request)
    return nodes_of(chart, [first_code(chart, request.modes, start) for start in book.starts])


def need_node(book, request, thing):
    """The thing itself, if it is a node."""
    need_charted(Chart(book, request), book, request, thing)
    return thing


def behind(book, request, node):
    """The nodes behind all moves from this one, ascending."""
    chart = Chart(book, request)
    need_charted(chart, book, request, node)
    codes = codes_behind(chart, goer(chart, request.modes), code_of(chart, node))
    return tuple(sorted([spot_parts(chart, code) + match_parts(chart, code) for code in codes]))


def is_torn_node(book, request, node):
    """Whether a node is torn."""
    chart = Chart(book, request)
    need_charted(chart, book, request, node)
    return is_torn_code(chart, request, code_of(chart, node))


def table(book, request):
    """All nodes to which one comes from the starts, ascending."""
    chart = Chart(book, request)
    ways, torn = ways_to_codes(chart, request.modes, MOST_NODES)
    return nodes_of(chart, list(ways))


def crossed(book, request):
    """The places to which one comes by switches alone, ascending."""
    chart = Chart(book, request)
    ways, torn = ways_to_codes(chart, request.modes, MOST_NODES)
    reached = [code >> chart.place_at for code in ways]
    return tuple(sorted(set(reached) - set(places_without_switches(chart, request.modes))))


def places_without_switches(chart, modes):
    """A list of the places to which one comes from the starts without a switch."""
    gone = goer(chart, modes)
    spots = [first_spot(chart, modes, start) for start in chart.starts]
    return [code >> chart.place_at for spot in spots for code in codes_from(gone, spot)]


def codes_from(gone, code):
    """A list of the codes to which one comes from this one by going on alone."""
    codes = {}
    while code != ENDED and code not in codes:
        codes[code] = True
        code = gone(code)
    return list(codes)


def codes_behind(chart, gone, code):
    """A list of the codes behind all moves from this one."""
    after = gone(code)
    return chart.turned(code) if after == ENDED else [*chart.turned(code), after]


def is_torn_code(chart, request, code):
    """Whether a code is that of a torn node."""
    return request.places[code >> chart.place_at] == END and chart.is_torn_at_end(code)


def need_charted(chart, book, request, thing):
    """BadNode for any value that is no node."""
    word = wrong_part(chart, book, request, thing)
    if word is not None:
        raise BadNode(word)


def wrong_part(chart, book, request, thing):
    """A word for the first part of any value that is not that of a node, or None if it is a node."""
    if not isinstance(thing, tuple) or len(thing) != 5:
        return "form"
    place, standing, kept, many, match = thing
    if not is_number(len(request), place):
        return "place"
    if standing not in book:
        return "standing"
    if not is_kept(request, kept):
        return "kept"
    if not is_int(many) or many < 0:
        return "many"
    if not is_match(chart, book, many, match):
        return "match"
    return None


def is_kept(request, thing):
    """Whether any value is what can be kept of the settings."""
    if not isinstance(thing, tuple) or len(thing) != len(request.settings):
        return False
    return all([is_kept_value(mode, most, value)
                for mode, (name, most), value in zip(request.modes, request.settings, thing)])


def is_kept_value(mode, most, thing):
    """Whether any value is what can be kept of a setting with this mode and this most."""
    if not is_int(thing):
        return False
    if thing == UNREAD:
        return mode != "begin"
    return mode != "live" and 0 <= thing <= most


def is_match(chart, book, many, thing):
    """Whether any value is a match of this many deeds."""
    if not isinstance(thing, tuple) or (thing == () and many != 0):
        return False
    last = -1
    for pair in thing:
        if not is_mark(chart, book, many, pair) or chart.numbers[pair[0]] <= last:
            return False
        last = chart.numbers[pair[0]]
    return True


def is_mark(chart, book, many, thing):
    """Whether any value is a pair of a standing whose plain row has at least this many deeds, and 0 or 1."""
    if not isinstance(thing, tuple) or len(thing) != 2:
        return False
    standing, mark = thing
    if standing not in book or not is_int(mark) or mark not in (0, 1):
        return False
    row = chart.rows[chart.numbers[standing]]
    return row is not None and len(row) >= many
