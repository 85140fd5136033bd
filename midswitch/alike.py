"""Rows that can be done, and whether two requests can do the same ones, points [14] and [15]."""

from midswitch.errors import TooMany
from midswitch.spots import Spots
from midswitch.verdicts import is_row

MOST_PAIRS = 600


def can_do(book, request, row):
    """Whether some whole right run has this row."""
    if not is_row(row):
        return False
    spots = Spots(book, request)
    here = spots.behind_starts()
    # A long row comes to the same sets again and again.
    known = {}
    for name in row:
        if (here, name) not in known:
            known[(here, name)] = spots.behind_deed(here, name)
        here = known[(here, name)]
    return here & spots.ends != 0


def first_unlike(book, one, other):
    """A pair of 0 or 1, for the one or the other, and the first row that it alone can do; None if there is none.

    Of two rows the shorter one is the first, and of two of one length the lesser one.
    """
    for row, mine, theirs in ends_by_row(book, one, other):
        if mine != theirs:
            return (0 if mine else 1, row)
    return None


def is_within(book, one, other):
    """Whether the other one can do each row that the one can do."""
    return all([theirs or not mine for row, mine, theirs in ends_by_row(book, one, other)])


def ends_by_row(book, one, other):
    """A list of triples: a row, and whether the one and the other can end with it.

    There is a row for each pair of sets of situations to which the two come: the first one of those that lead to the
    pair; and the rows stand in their order.
    """
    mine, theirs = Spots(book, one), Spots(book, other)
    rows = rows_to_pairs(mine, theirs)
    return [(rows[pair], pair[0] & mine.ends != 0, pair[1] & theirs.ends != 0) for pair in rows]


def rows_to_pairs(mine, theirs):
    """A dict with the first row that leads to each pair of sets, in the order of the rows."""
    names = sorted(set(list(mine.deeds_by_name) + list(theirs.deeds_by_name)))
    rows = {(mine.behind_starts(), theirs.behind_starts()): ()}
    level = list(rows)
    while level:
        following = []
        for pair in level:
            for name in names:
                after = (mine.behind_deed(pair[0], name), theirs.behind_deed(pair[1], name))
                # Where both sets are empty, neither of the two has a run with this row.
                if after != (0, 0) and after not in rows:
                    rows[after] = (*rows[pair], name)
                    following.append(after)
            if len(rows) > MOST_PAIRS:
                raise TooMany(MOST_PAIRS)
        level = following
    return rows
