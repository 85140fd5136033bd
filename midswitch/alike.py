"""Rows that can be done, and whether two requests can do the same ones, points [14] and [15]."""

from midswitch.errors import TooMany
from midswitch.spots import Spots
from midswitch.verdicts import is_row

MOST_PAIRS = 600


def can_do(book, request, row):
    """Whether some whole right run has this row."""
    if not is_row(row):
        return False
    spots = Spots(book, request)
    here = spots.first
    # A long row comes to the same sets again and again.
    known = {}
    for name in row:
        if (here, name) not in known:
            known[(here, name)] = spots.behind_deed(here, name)
        here = known[(here, name)]
    return here & spots.ends != 0


def first_unlike(book, one, other):
    """A pair of 0 or 1, for the one or the other, and the first row that it alone can do; None if there is none.

    Of two rows the shorter one is the first, and of two of one length the lesser one.
    """
    mine, theirs = Spots(book, one), Spots(book, other)
    ways = ways_to_pairs(mine, theirs)
    for pair in ways:
        can, they_can = pair[0] & mine.ends != 0, pair[1] & theirs.ends != 0
        if can != they_can:
            return (0 if can else 1, row_to(ways, pair))
    return None


def is_within(book, one, other):
    """Whether the other one can do each row that the one can do."""
    mine, theirs = Spots(book, one), Spots(book, other)
    for pair in ways_to_pairs(mine, theirs):
        if pair[0] & mine.ends != 0 and pair[1] & theirs.ends == 0:
            return False
    return True


def ways_to_pairs(mine, theirs):
    """How the first row comes to each pair of sets: a dict, in the order of these rows.

    It has the pair ahead of the last deed and the name of this deed, None for the empty row. TooMany if there are more
    than 600 pairs.
    """
    first = (mine.first, theirs.first)
    ways = {first: None}
    level = [first]
    while level:
        following = []
        for pair in level:
            my_ways, their_ways = mine.behind_deeds(pair[0]), theirs.behind_deeds(pair[1])
            for name in sorted({**my_ways, **their_ways}):
                after = (my_ways.get(name, 0), their_ways.get(name, 0))
                if after not in ways:
                    ways[after] = (pair, name)
                    following.append(after)
            if len(ways) > MOST_PAIRS:
                raise TooMany(MOST_PAIRS)
        level = following
    return ways


def row_to(ways, pair):
    """The first row that comes to this pair."""
    names = []
    while ways[pair] is not None:
        pair, name = ways[pair]
        names.append(name)
    return tuple(names[::-1])
