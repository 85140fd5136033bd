"""Certificates, point [21], and shortest runs to a row or to a place."""

from midswitch.charts import Chart, code_of, first_code, goer, nodes_of, way_to, ways_to_codes
from midswitch.errors import BadNumber, BadPaper
from midswitch.requests import is_number
from midswitch.runs import is_torn
from midswitch.settings import is_name
from midswitch.spots import Spots
from midswitch.steps import GO
from midswitch.tables import MOST_NODES, codes_behind, is_torn_code, wrong_part


def verdict(book, request):
    """A certificate: the table, or a torn run with the fewest moves."""
    chart = Chart(book, request)
    ways, torn = ways_to_codes(chart, request.modes, MOST_NODES)
    if not torn:
        return ("whole", nodes_of(chart, list(ways)))
    return ("torn", ended(run_by(chart, way_to(ways, torn[0]))))


def check(book, request, paper):
    """The word of a certificate, if it is right."""
    if not is_paper(paper):
        raise BadPaper("form")
    word, told = paper
    right = is_torn(book, request, told) if word == "torn" else is_whole_table(book, request, told)
    if not right:
        raise BadPaper(word)
    return word


def run_to(book, request, row):
    """A whole right run with this row, with the fewest moves, or None."""
    if not is_row(row):
        raise BadNumber(row)
    # Asked for its error alone: whether there are too many nodes does not hang on the row.
    ways_to_codes(Chart(book, request), request.modes, MOST_NODES)
    spots = Spots(book, request)
    way = way_with_row(spots, row)
    return None if way is None else ended(run_by(spots.chart, [spots.codes[number] for number in way]))


def run_to_place(book, request, place):
    """A right run that stands at this place, with the fewest moves, or None."""
    if not is_number(len(request), place):
        raise BadNumber(place)
    chart = Chart(book, request)
    ways, torn = ways_to_codes(chart, request.modes, MOST_NODES)
    for code in ways:
        if code >> chart.place_at == place:
            return run_by(chart, way_to(ways, code))
    return None


def run_by(chart, codes):
    """The run that comes to these codes, one behind the other."""
    numbers = [chart.standing_of(code) for code in codes]
    # A switch leads to another standing, and a go never does.
    moves = [GO if one == other else ("to", chart.grid[other]) for one, other in zip(numbers, numbers[1:])]
    return (chart.grid[numbers[0]], tuple(moves))


def ended(run):
    """The run of which the last move is the go of the end at which it stands."""
    start, moves = run
    return (start, moves + (GO,))


def way_with_row(spots, row):
    """The numbers of the situations on a shortest way to an end with this row, or None."""
    many = len(spots.codes)
    # A mark is a situation and how many deeds of the row are done, in one integer.
    level = list(range(spots.first_many))
    ways = {mark: None for mark in level}
    while level:
        following = []
        for mark in level:
            done, number = divmod(mark, many)
            if done == len(row) and spots.ends >> number & 1:
                return [other % many for other in way_to(ways, mark)]
            for after in marks_behind(spots, row, done, number):
                if after not in ways:
                    ways[after] = mark
                    following.append(after)
        level = following
    return None


def marks_behind(spots, row, done, number):
    """A list of the marks behind all moves that keep to the row."""
    many = len(spots.codes)
    marks = [done * many + other for other in spots.silent[number]]
    deed = spots.deeds[number]
    if deed is not None and done < len(row) and row[done] == deed[0]:
        marks.append((done + 1) * many + deed[1])
    return marks


def is_row(thing):
    """Whether any value is a tuple of names."""
    return isinstance(thing, tuple) and all([is_name(name) for name in thing])


def is_paper(thing):
    """Whether any value is a word of a certificate with a tuple, or with any value, as the word asks for."""
    if not isinstance(thing, tuple) or len(thing) != 2:
        return False
    word, told = thing
    return word == "torn" or (word == "whole" and isinstance(told, tuple))


def is_whole_table(book, request, things):
    """Whether these nodes certify that the request is not torn; BadPaper if one of them is no node."""
    chart = Chart(book, request)
    for thing in things:
        if wrong_part(chart, book, request, thing) is not None:
            raise BadPaper("form")
    return is_closed(chart, request, things)


def is_closed(chart, request, nodes):
    """Whether these nodes ascend, have those of all starts and all behind each, and none is torn."""
    if not all([node < following for node, following in zip(nodes, nodes[1:])]):
        return False
    codes = [code_of(chart, node) for node in nodes]
    known = set(codes)
    for start in chart.starts:
        if first_code(chart, request.modes, start) not in known:
            return False
    gone = goer(chart, request.modes)
    for code in codes:
        if is_torn_code(chart, request, code):
            return False
        for after in codes_behind(chart, gone, code):
            if after not in known:
                return False
    return True
