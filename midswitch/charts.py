"""Charts: the nodes of a request in a book as integers, points [18] and [19], so that many are found quickly.

The code of a node has these parts, from its highest bits to its lowest:
- the number of the place;
- the number of the standing, among all standings;
- what is kept: for each setting a field with 0 for -1, and a value raised by 1 otherwise;
- the depth: many raised by 1, or 0 if match is empty;
- the members: a bit for each standing that stands in match, that of the first standing is the highest;
- the lived ones: the same bit for each standing that has 1 in match.

What goes on at a place hangs on the first three parts alone. They are the spot: a code whose other parts are 0.
"""

from midswitch.errors import TooMany
from midswitch.requests import plain_row
from midswitch.settings import order_of
from midswitch.steps import UNREAD

ENDED = -1


class Chart:
    """How the nodes of a request are written as codes, and what its places and a book's switches do to them.

    The modes of the request do not matter here: they are passed where they do.
    """

    def __init__(self, book, request):
        self.grid = book.grid
        self.starts = book.starts
        self.order = order_of(request.settings)
        self.numbers = {standing: at for at, standing in enumerate(book.grid)}
        self.rows = [plain_row(request.places, self.order, standing) for standing in book.grid]
        many = len(book.grid)
        self.bits = [1 << at for at in reversed(range(many))]
        self.with_rows = sum([bit for row, bit in zip(self.rows, self.bits) if row is not None])
        self.named, self.full = named_and_full(self.rows, self.bits)
        self.members_at = many
        self.depth_at = 2 * many
        self.spot_at = self.depth_at + (len(self.full) - 1).bit_length()
        self.fields, self.standing_at = fields_from(request.settings, self.spot_at)
        self.place_at = self.standing_at + (many - 1).bit_length()
        self.members_mask = (1 << many) - 1
        self.depth_mask = (1 << self.spot_at - self.depth_at) - 1
        self.standing_mask = (1 << self.place_at - self.standing_at) - 1
        self.turns = turns_of(book.switches, self.numbers, self.bits, self.standing_at)
        self.steps = [step_of(place, self.order, self.fields, self.place_at) for place in request.places]

    def standing_of(self, code):
        """The number of the standing of a code."""
        return code >> self.standing_at & self.standing_mask

    def turned(self, code):
        """A list of the codes behind all switches from this one."""
        members = code >> self.members_at & self.members_mask
        return [(code + way) | (bit & members) for way, bit in self.turns[self.standing_of(code)]]

    def turned_to(self, code, second):
        """The code behind a switch to the standing with this number."""
        way = second - self.standing_of(code) << self.standing_at
        return (code + way) | (self.bits[second] & code >> self.members_at)

    def is_torn_at_end(self, code):
        """Whether the code of a node at an end is that of a torn one."""
        return code & self.full[code >> self.depth_at & self.depth_mask] == 0


def named_and_full(rows, bits):
    """For each depth: a dict with the bits of the standings whose row has this name there, and those of full rows."""
    deepest = max([len(row) for row in rows if row is not None], default=0) + 1
    named = [{} for depth in range(deepest + 1)]
    full = [0 for depth in range(deepest + 1)]
    for row, bit in zip(rows, bits):
        if row is not None:
            full[len(row) + 1] |= bit
            for many, name in enumerate(row):
                named[many + 1][name] = named[many + 1].get(name, 0) | bit
    return named, full


def fields_from(settings, at):
    """For each setting the lowest bit of its field and the mask of the field, and the bit above all of them."""
    fields = []
    for name, most in reversed(settings):
        width = (most + 1).bit_length()
        fields.append((at, (1 << width) - 1))
        at += width
    return fields[::-1], at


def turns_of(switches, numbers, bits, standing_at):
    """For each standing a list of its switches: what each one adds to a code, and the bit of the other standing."""
    turns = [[] for bit in bits]
    for first, second in switches:
        way = numbers[second] - numbers[first] << standing_at
        turns[numbers[first]].append((way, bits[numbers[second]]))
    return turns


def step_of(place, order, fields, place_at):
    """What a go does at this place: a word, a name or the number of a setting, the next places, and a field."""
    if place[0] == "do":
        return "do", place[1], place[2] << place_at, None
    if place[0] == "ask":
        at = order[place[1]]
        # What stands in the field of a value is 1 more than the value, so the first item is never taken.
        return "ask", at, [0] + [number << place_at for number in place[2]], fields[at]
    return "end", None, None, None


def goer(chart, modes):
    """A function that tells the code behind a go with these modes, or ENDED behind an end."""
    # It is called for each of many codes, so it reads no attributes.
    steps, named, grid = chart.steps, chart.named, chart.grid
    members_at, depth_at, standing_at, place_at = chart.members_at, chart.depth_at, chart.standing_at, chart.place_at
    depth_mask, standing_mask = chart.depth_mask, chart.standing_mask
    below_place = (1 << place_at) - 1
    unchanged = below_place >> chart.spot_at << chart.spot_at
    met = [mode == "met" for mode in modes]

    def gone(code):
        word, what, nexts, field = steps[code >> place_at]
        if word == "do":
            depth = code >> depth_at & depth_mask
            left = code >> members_at & named[depth].get(what, 0)
            after = code & unchanged | nexts
            return after | depth + 1 << depth_at | left << members_at | code & left if left else after
        if word == "end":
            return ENDED
        lowest, mask = field
        kept = code >> lowest & mask
        if kept == 0:
            kept = grid[code >> standing_at & standing_mask][what] + 1
            if met[what]:
                code |= kept << lowest
        return code & below_place | nexts[kept]

    return gone


def first_spot(chart, modes, start):
    """The spot of a request that begins at this standing."""
    code = chart.numbers[start] << chart.standing_at
    for mode, value, (lowest, mask) in zip(modes, start, chart.fields):
        if mode == "begin":
            code |= value + 1 << lowest
    return code


def first_code(chart, modes, start):
    """The code of the node of a request that begins at this standing."""
    code = first_spot(chart, modes, start)
    members = chart.with_rows
    if members == 0:
        return code
    lived = chart.bits[chart.numbers[start]] & members
    return code | 1 << chart.depth_at | members << chart.members_at | lived


def ways_to_codes(chart, modes, most):
    """How one first comes to each code, and a list of the torn ones; in both the nearest ones stand first.

    The ways are a dict with the code ahead of each one, None ahead of a first one. TooMany if there are more.
    """
    turns, members_at, standing_at = chart.turns, chart.members_at, chart.standing_at
    members_mask, standing_mask = chart.members_mask, chart.standing_mask
    gone = goer(chart, modes)
    level = [first_code(chart, modes, start) for start in chart.starts]
    ways = {code: None for code in level}
    torn = []
    while level:
        if len(ways) > most:
            raise TooMany(most)
        following = []
        for code in level:
            # The switches are followed here and not by chart.turned, since most of the time is spent in this loop.
            members = code >> members_at & members_mask
            for way, bit in turns[code >> standing_at & standing_mask]:
                after = (code + way) | (bit & members)
                if after not in ways:
                    ways[after] = code
                    following.append(after)
            after = gone(code)
            if after == ENDED:
                if chart.is_torn_at_end(code):
                    torn.append(code)
            elif after not in ways:
                ways[after] = code
                following.append(after)
        level = following
    return ways, torn


def way_to(ways, code):
    """The codes of the way on which one first came to this one, in their order."""
    codes = [code]
    while ways[codes[-1]] is not None:
        codes.append(ways[codes[-1]])
    return codes[::-1]


def code_of(chart, node):
    """The code of a node."""
    place, standing, kept, many, match = node
    code = place << chart.place_at | chart.numbers[standing] << chart.standing_at
    for value, (lowest, mask) in zip(kept, chart.fields):
        code |= value + 1 << lowest
    if not match:
        return code
    bits = [(chart.bits[chart.numbers[other]], mark) for other, mark in match]
    members = sum([bit for bit, mark in bits])
    lived = sum([bit for bit, mark in bits if mark == 1])
    return code | many + 1 << chart.depth_at | members << chart.members_at | lived


def nodes_of(chart, codes):
    """An ascending tuple of the nodes of different codes to which one comes."""
    # Of the matches of one depth, of which no standing stands in two, the one with the higher bit comes first.
    turn_over = chart.members_mask << chart.members_at
    low_mask = (1 << chart.spot_at) - 1
    spots, matches = {}, {}
    nodes = []
    for turned_over in sorted([code ^ turn_over for code in codes]):
        code = turned_over ^ turn_over
        high, low = code >> chart.spot_at, code & low_mask
        if high not in spots:
            spots[high] = spot_parts(chart, code)
        if low not in matches:
            matches[low] = match_parts(chart, low)
        nodes.append(spots[high] + matches[low])
    return tuple(nodes)


def spot_parts(chart, code):
    """The place, the standing and what is kept, of a code."""
    kept = tuple([(code >> lowest & mask) + UNREAD for lowest, mask in chart.fields])
    return (code >> chart.place_at, chart.grid[chart.standing_of(code)], kept)


def match_parts(chart, code):
    """The last two parts of a node, many and match, of a code."""
    depth = code >> chart.depth_at & chart.depth_mask
    if depth == 0:
        return (0, ())
    members = code >> chart.members_at
    match = tuple([(standing, 1 if code & bit else 0)
                   for standing, bit in zip(chart.grid, chart.bits) if members & bit])
    return (depth - 1, match)
