"""Situations: a place, a standing, and what is kept. They tell all that a request can still do."""

from midswitch.search import nearest_first
from midswitch.steps import GO, behind_go, first_kept


def first_situations(book, request):
    """A list of the situations of all starts."""
    return [(0, start, first_kept(request, start)) for start in book.starts]


def situation_moves(book, request, situation):
    """Triples of a move, the situation behind it, and the deed or None, for each move that leads to a situation."""
    place, standing, kept = situation
    moves = [(("to", second), (place, second, kept), None) for second in book.after(standing)]
    number, more, deed = behind_go(request, place, standing, kept)
    if number is not None:
        moves.append((GO, (number, standing, more), deed))
    return moves


def situation_pairs(book, request, situation):
    """The same moves, without the deeds."""
    return [(move, after) for move, after, deed in situation_moves(book, request, situation)]


def situation_map(book, request):
    """All situations to which one comes, those of the starts first, and for each of them the triples of its moves.

    In these triples a situation is told by its number.
    """
    ways = nearest_first(first_situations(book, request), lambda here: situation_pairs(book, request, here))
    situations = list(ways)
    numbers = {situation: at for at, situation in enumerate(situations)}
    arcs = []
    for situation in situations:
        moves = situation_moves(book, request, situation)
        arcs.append([(move, numbers[after], deed) for move, after, deed in moves])
    return situations, arcs
