"""Runs of a request: where they stand, their rows, and whether they are torn, points [15] and [16]."""

from midswitch.errors import BadRun
from midswitch.steps import GO, behind_go, first_kept


def row_of(book, request, run):
    """The row of a right run."""
    number, row, been = followed(book, request, run)
    return row


def is_right(book, request, run):
    """Whether any value is a right run."""
    return followed_if_right(book, request, run) is not None


def is_whole(book, request, run):
    """Whether any value is a right and whole run."""
    told = followed_if_right(book, request, run)
    return told is not None and told[0] is None


def is_torn(book, request, run):
    """Whether any value is a right, whole and torn run."""
    told = followed_if_right(book, request, run)
    if told is None:
        return False
    number, row, been = told
    return number is None and is_torn_row(request, row, been)


def is_torn_row(request, row, been):
    """Whether a request that ended with this row was torn, having lived through these standings."""
    return row not in [request.plain(standing) for standing in been]


def lived(book, request, run):
    """The standings that a right run lived through, ascending."""
    number, row, been = followed(book, request, run)
    return been


def place_of(book, request, run):
    """The number of the place at which a right run stands, or None behind an end."""
    number, row, been = followed(book, request, run)
    return number


def followed_if_right(book, request, run):
    """As followed tells of a right run, and None of any other value."""
    try:
        return followed(book, request, run)
    except BadRun:
        return None


def followed(book, request, run):
    """Where a right run stands, its row, and the standings that it lived through, ascending."""
    if not is_run(book, run):
        raise BadRun(None)
    standing, moves = run
    number, kept = 0, first_kept(request, standing)
    row = []
    been = [standing]
    for at, move in enumerate(moves):
        if number is None or not can_move(book, standing, move):
            raise BadRun(at)
        if move == GO:
            number, kept, deed = behind_go(request, number, standing, kept)
            if deed is not None:
                row.append(deed)
        else:
            standing = move[1]
            been.append(standing)
    return number, tuple(row), tuple(sorted(set(been)))


def is_run(book, thing):
    """Whether any value is a pair of a start and a tuple."""
    if not isinstance(thing, tuple) or len(thing) != 2:
        return False
    start, moves = thing
    return start in book and start in book.starts and isinstance(moves, tuple)


def can_move(book, standing, thing):
    """Whether any value is a move that can be made at this standing, where the request has not ended."""
    if not isinstance(thing, tuple):
        return False
    if len(thing) == 2 and thing[0] == "to":
        return thing[1] in book and (standing, thing[1]) in book.switches
    return thing == GO
