"""Certificates, point [21], and shortest runs to a row or to a place."""

from midswitch.charts import Chart, code_of, first_code, first_spot, goer, nodes_of, way_to, ways_to_codes
from midswitch.errors import BadNumber, BadPaper
from midswitch.requests import is_number
from midswitch.runs import is_torn
from midswitch.settings import is_name
from midswitch.steps import GO
from midswitch.tables import MOST_NODES, codes_behind, is_torn_code, wrong_part


def verdict(book, request):
    """A certificate: the table, or a torn run with the fewest moves."""
    chart = Chart(book, request)
    ways, torn = ways_to_codes(chart, request.modes, MOST_NODES)
    if not torn:
        return ("whole", nodes_of(chart, list(ways)))
    return ("torn", ended(run_by(chart, way_to(ways, torn[0]))))


def check(book, request, paper):
    """The word of a certificate, if it is right."""
    if not is_paper(paper):
        raise BadPaper("form")
    word, told = paper
    right = is_torn(book, request, told) if word == "torn" else is_whole_table(book, request, told)
    if not right:
        raise BadPaper(word)
    return word


def run_to(book, request, row):
    """A whole right run with this row, with the fewest moves, or None."""
    if not is_row(row):
        raise BadNumber(row)
    chart = Chart(book, request)
    # Asked for its error alone: whether there are too many nodes does not hang on the row.
    ways_to_codes(chart, request.modes, MOST_NODES)
    codes = codes_with_row(chart, request.modes, row)
    return None if codes is None else ended(run_by(chart, codes))


def run_to_place(book, request, place):
    """A right run that stands at this place, with the fewest moves, or None."""
    if not is_number(len(request), place):
        raise BadNumber(place)
    chart = Chart(book, request)
    ways, torn = ways_to_codes(chart, request.modes, MOST_NODES)
    for code in ways:
        if code >> chart.place_at == place:
            return run_by(chart, way_to(ways, code))
    return None


def run_by(chart, codes):
    """The run that comes to these codes, one behind the other."""
    numbers = [chart.standing_of(code) for code in codes]
    # A switch leads to another standing, and a go never does.
    moves = [GO if one == other else ("to", chart.grid[other]) for one, other in zip(numbers, numbers[1:])]
    return (chart.grid[numbers[0]], tuple(moves))


def ended(run):
    """The run of which the last move is the go of the end at which it stands."""
    start, moves = run
    return (start, moves + (GO,))


def codes_with_row(chart, modes, row):
    """The codes of the spots on a shortest way to an end with this row, or None."""
    gone = goer(chart, modes)
    # A mark is how many deeds of the row are done, and behind it the code of a spot, in one integer.
    done_at = chart.place_at + len(chart.steps).bit_length()
    below_done = (1 << done_at) - 1
    level = [first_spot(chart, modes, start) for start in chart.starts]
    ways = {mark: None for mark in level}
    # On a long row one comes to the same spots again and again.
    moves = {}
    while level:
        following = []
        for mark in level:
            done, code = mark >> done_at, mark & below_done
            if code not in moves:
                moves[code] = moves_from(chart, gone, code)
            word, name, behind, silent = moves[code]
            if word == "end" and done == len(row):
                return [other & below_done for other in way_to(ways, mark)]
            afters = [mark - code + other for other in silent]
            if word == "do" and done < len(row) and row[done] == name:
                afters.append((done + 1 << done_at) + behind)
            for after in afters:
                if after not in ways:
                    ways[after] = mark
                    following.append(after)
        level = following
    return None


def moves_from(chart, gone, code):
    """What stands at a spot: the word, the name of a deed, the code behind its go, and all those behind no deed."""
    word, name, nexts, field = chart.steps[code >> chart.place_at]
    behind = gone(code)
    silent = [code + way for way, bit in chart.turns[chart.standing_of(code)]]
    return word, name, behind, [*silent, behind] if word == "ask" else silent


def is_row(thing):
    """Whether any value is a tuple of names."""
    return isinstance(thing, tuple) and all([is_name(name) for name in thing])


def is_paper(thing):
    """Whether any value is a word of a certificate with a tuple, or with any value, as the word asks for."""
    if not isinstance(thing, tuple) or len(thing) != 2:
        return False
    word, told = thing
    return word == "torn" or (word == "whole" and isinstance(told, tuple))


def is_whole_table(book, request, things):
    """Whether these nodes certify that the request is not torn; BadPaper if one of them is no node."""
    chart = Chart(book, request)
    for thing in things:
        if wrong_part(chart, book, request, thing) is not None:
            raise BadPaper("form")
    return is_closed(chart, request, things)


def is_closed(chart, request, nodes):
    """Whether these nodes ascend, have those of all starts and all behind each, and none is torn."""
    if not all([node < following for node, following in zip(nodes, nodes[1:])]):
        return False
    codes = [code_of(chart, node) for node in nodes]
    known = set(codes)
    for start in chart.starts:
        if first_code(chart, request.modes, start) not in known:
            return False
    gone = goer(chart, request.modes)
    for code in codes:
        if is_torn_code(chart, request, code):
            return False
        for after in codes_behind(chart, gone, code):
            if after not in known:
                return False
    return True
