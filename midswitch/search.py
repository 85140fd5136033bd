"""A search that comes to the nearest things first."""

from midswitch.errors import TooMany


def nearest_first(firsts, moves_from, most=None):
    """A dict with each thing to which one comes, the nearest ones first: the thing ahead of it and the move from there.

    The firsts have None. moves_from(thing) is a list of pairs of a move and the thing behind it.
    """
    ways = {first: None for first in firsts}
    waiting = list(ways)
    at = 0
    while at < len(waiting):
        if most is not None and len(waiting) > most:
            raise TooMany(most)
        here = waiting[at]
        for move, thing in moves_from(here):
            if thing not in ways:
                ways[thing] = (here, move)
                waiting.append(thing)
        at += 1
    return ways


def way_to(ways, thing):
    """The first thing of the way on which one came to this one, and the tuple of the moves from there."""
    moves = []
    while ways[thing] is not None:
        thing, move = ways[thing]
        moves.append(move)
    return thing, tuple(reversed(moves))
