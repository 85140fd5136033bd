"""Nodes of a request, the table of all of them, and the crossed places, points [17] to [20]."""

from midswitch.books import Book
from midswitch.errors import BadNode
from midswitch.requests import END, is_number
from midswitch.search import nearest_first
from midswitch.settings import grid_of, is_int
from midswitch.situations import first_situations, situation_moves
from midswitch.steps import GO, UNREAD

MOST_NODES = 600


def start_nodes(book, request):
    """The nodes of all starts, ascending."""
    return tuple(first_nodes(book, request, plain_rows(request)))


def need_node(book, request, thing):
    """The thing itself, if it is a node."""
    word = wrong_part(book, request, plain_rows(request), thing)
    if word is not None:
        raise BadNode(word)
    return thing


def behind(book, request, node):
    """The nodes behind all moves from this one, ascending."""
    need_node(book, request, node)
    return tuple(sorted([after for move, after in node_moves(book, request, plain_rows(request), node)]))


def is_torn_node(book, request, node):
    """Whether a node is torn."""
    need_node(book, request, node)
    return is_torn_there(request, plain_rows(request), node)


def table(book, request):
    """All nodes to which one comes from the starts, ascending."""
    return tuple(sorted(list(ways_to_nodes(book, request))))


def crossed(book, request):
    """The places to which one comes by switches alone, ascending."""
    still = Book(book.settings, starts=book.starts, switches=())
    reached = [node[0] for node in table(book, request)]
    without = [node[0] for node in table(still, request)]
    return tuple(sorted(set(reached) - set(without)))


def plain_rows(request):
    """A dict with the plain row of each standing that has one, ascending."""
    rows = {standing: request.plain(standing) for standing in grid_of(request.settings)}
    return {standing: rows[standing] for standing in rows if rows[standing] is not None}


def ways_to_nodes(book, request):
    """How one first comes to each node of the table, the nearest nodes first."""
    rows = plain_rows(request)
    firsts = first_nodes(book, request, rows)
    return nearest_first(firsts, lambda node: node_moves(book, request, rows, node), MOST_NODES)


def first_nodes(book, request, rows):
    """A list of the nodes of all starts, ascending."""
    nodes = []
    for situation in first_situations(book, request):
        match = tuple([(standing, int(standing == situation[1])) for standing in rows])
        nodes.append((*situation, 0, match))
    return nodes


def node_moves(book, request, rows, node):
    """Pairs of a move and the node behind it, for each move from this node that leads to one."""
    place, standing, kept, many, match = node
    moves = []
    for move, situation, deed in situation_moves(book, request, (place, standing, kept)):
        done, left = many, match
        if move != GO:
            left = marked(match, situation[1])
        elif deed is not None:
            done, left = matched(rows, many, match, deed)
        moves.append((move, (*situation, done, left)))
    return moves


def marked(match, second):
    """The match with 1 for this standing, if it stands there."""
    return tuple([(standing, 1 if standing == second else mark) for standing, mark in match])


def matched(rows, many, match, deed):
    """How many deeds there are behind this one, and what is left of the match."""
    left = tuple([(standing, mark) for standing, mark in match if rows[standing][many:many + 1] == (deed,)])
    return (many + 1 if left else 0), left


def is_torn_there(request, rows, node):
    """Whether a node is torn, by the plain rows."""
    place, standing, kept, many, match = node
    fitting = [mark for other, mark in match if len(rows[other]) == many]
    return request.places[place] == END and 1 not in fitting


def wrong_part(book, request, rows, thing):
    """A word for the first part of any value that is not that of a node, or None if it is a node."""
    if not isinstance(thing, tuple) or len(thing) != 5:
        return "form"
    place, standing, kept, many, match = thing
    if not is_number(len(request), place):
        return "place"
    if standing not in book:
        return "standing"
    if not is_kept(request, kept):
        return "kept"
    if not is_int(many) or many < 0:
        return "many"
    if not is_match(book, rows, many, match):
        return "match"
    return None


def is_kept(request, thing):
    """Whether any value is what can be kept of the settings."""
    if not isinstance(thing, tuple) or len(thing) != len(request.settings):
        return False
    return all([is_kept_value(mode, most, value)
                for mode, (name, most), value in zip(request.modes, request.settings, thing)])


def is_kept_value(mode, most, thing):
    """Whether any value is what can be kept of a setting with this mode and this most."""
    if not is_int(thing):
        return False
    if thing == UNREAD:
        return mode != "begin"
    return mode != "live" and 0 <= thing <= most


def is_match(book, rows, many, thing):
    """Whether any value is a match of this many deeds."""
    if not isinstance(thing, tuple) or (thing == () and many != 0):
        return False
    if not all([is_mark(book, rows, many, pair) for pair in thing]):
        return False
    order = [standing for standing, mark in thing]
    return order == sorted(set(order))


def is_mark(book, rows, many, thing):
    """Whether any value is a pair of a standing whose plain row has at least this many deeds, and 0 or 1."""
    if not isinstance(thing, tuple) or len(thing) != 2:
        return False
    standing, mark = thing
    if standing not in book or not is_int(mark) or mark not in (0, 1):
        return False
    return standing in rows and len(rows[standing]) >= many
