"""Certificates, point [21], and shortest runs to a row or to a place."""

from midswitch.errors import BadNumber, BadPaper
from midswitch.requests import END, is_number
from midswitch.runs import is_torn
from midswitch.search import nearest_first, way_to
from midswitch.settings import is_name
from midswitch.situations import situation_map
from midswitch.steps import GO
from midswitch.tables import is_torn_there, node_moves, plain_rows, start_nodes, ways_to_nodes, wrong_part


def verdict(book, request):
    """A certificate: the table, or a torn run with the fewest moves."""
    ways = ways_to_nodes(book, request)
    rows = plain_rows(request)
    for node in ways:
        if is_torn_there(request, rows, node):
            return ("torn", ended(run_by(ways, node)))
    return ("whole", tuple(sorted(list(ways))))


def check(book, request, paper):
    """The word of a certificate, if it is right."""
    if not is_paper(book, request, paper):
        raise BadPaper("form")
    word, told = paper
    right = is_torn(book, request, told) if word == "torn" else is_closed(book, request, told)
    if not right:
        raise BadPaper(word)
    return word


def run_to(book, request, row):
    """A whole right run with this row, with the fewest moves, or None."""
    if not is_row(row):
        raise BadNumber(row)
    # Asked for its error alone: whether there are too many nodes does not hang on the row.
    ways_to_nodes(book, request)
    situations, arcs = situation_map(book, request)
    firsts = [(at, 0) for at in range(len(book.starts))]
    ways = nearest_first(firsts, lambda spot: spot_moves(arcs, row, spot))
    for spot in ways:
        at, done = spot
        if done == len(row) and request.places[situations[at][0]] == END:
            first, moves = way_to(ways, spot)
            return ended((situations[first[0]][1], moves))
    return None


def run_to_place(book, request, place):
    """A right run that stands at this place, with the fewest moves, or None."""
    if not is_number(len(request), place):
        raise BadNumber(place)
    ways = ways_to_nodes(book, request)
    for node in ways:
        if node[0] == place:
            return run_by(ways, node)
    return None


def run_by(ways, node):
    """The run by which one first came to this node."""
    first, moves = way_to(ways, node)
    return (first[1], moves)


def ended(run):
    """The run of which the last move is the go of the end at which it stands."""
    start, moves = run
    return (start, moves + (GO,))


def spot_moves(arcs, row, spot):
    """Pairs of a move and the spot behind it: the number of a situation, and how many deeds of the row are done."""
    at, done = spot
    moves = []
    for move, after, deed in arcs[at]:
        if deed is None:
            moves.append((move, (after, done)))
        elif row[done:done + 1] == (deed,):
            moves.append((move, (after, done + 1)))
    return moves


def is_row(thing):
    """Whether any value is a tuple of names."""
    return isinstance(thing, tuple) and all([is_name(name) for name in thing])


def is_paper(book, request, thing):
    """Whether any value has the form of a certificate."""
    if not isinstance(thing, tuple) or len(thing) != 2:
        return False
    word, told = thing
    if word == "torn":
        return True
    if word != "whole" or not isinstance(told, tuple):
        return False
    rows = plain_rows(request)
    return all([wrong_part(book, request, rows, node) is None for node in told])


def is_closed(book, request, nodes):
    """Whether these nodes ascend, have those of all starts and all behind each, and none is torn."""
    known = set(nodes)
    if list(nodes) != sorted(known):
        return False
    for node in start_nodes(book, request):
        if node not in known:
            return False
    rows = plain_rows(request)
    for node in nodes:
        if is_torn_there(request, rows, node):
            return False
        for move, after in node_moves(book, request, rows, node):
            if after not in known:
                return False
    return True
