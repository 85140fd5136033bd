"""Settings that go on, with requests under way, points [13] to [16]."""

from midswitch.errors import BadNumber, BadStanding, TooMany
from midswitch.requests import Request
from midswitch.runs import is_torn_row
from midswitch.settings import is_int, need_standing
from midswitch.steps import behind_go, first_kept

MOST_ASKS = 100


class State:
    """All of a live that changes."""

    def __init__(self, now):
        self.now = now
        # The standings that were left, in their order: one for each switch.
        self.left = []
        self.begun_many = 0
        # By the number of each request under way: the request, its place, what is kept, its row so far, and how many
        # switches were made before it began.
        self.tracks = {}
        self.done = []

    def copied(self):
        """A state of its own that is the same."""
        other = State(self.now)
        other.left = list(self.left)
        other.begun_many = self.begun_many
        other.tracks = {number: self.tracks[number] for number in self.tracks}
        other.done = list(self.done)
        return other


class Live:
    """A book, the standing now, and the requests that are under way or have ended."""

    def __init__(self, book, standing):
        need_standing(book.settings, standing)
        self.rules = book
        self.state = State(standing)

    def __len__(self):
        return len(self.state.left)

    def __eq__(self, other):
        return isinstance(other, Live) and all_of(self) == all_of(other)

    @property
    def book(self):
        """The book."""
        return self.rules

    @property
    def standing(self):
        """The standing now."""
        return self.state.now

    @property
    def going(self):
        """The numbers of the requests under way, ascending."""
        return tuple(list(self.state.tracks))

    @property
    def ended(self):
        """A list of triples of the requests that have ended: the number, the row, and whether it was torn."""
        return list(self.state.done)

    def begin(self, request):
        """Begins a request at the standing now, and returns its number."""
        if not isinstance(request, Request) or request.settings != self.rules.settings:
            raise BadNumber(request)
        state = self.state
        number = state.begun_many
        state.begun_many += 1
        state.tracks[number] = (request, 0, first_kept(request, state.now), (), len(state.left))
        return number

    def go(self, number):
        """Does what stands at a request's place; returns the name of a deed, None of an ask, the row of an end."""
        need_under_way(self.state, number)
        state = self.state
        request, place, kept, row, before = state.tracks[number]
        place, kept, deed = behind_go(request, place, state.now, kept)
        if place is None:
            torn = is_torn_row(request, row, lived_through(state, before))
            del state.tracks[number]
            state.done.append((number, row, torn))
            return row
        if deed is not None:
            row = (*row, deed)
        state.tracks[number] = (request, place, kept, row, before)
        return deed

    def switch(self, standing):
        """Switches the settings to this standing."""
        if standing not in self.rules or (self.state.now, standing) not in self.rules.switches:
            raise BadStanding(standing)
        self.state.left.append(self.state.now)
        self.state.now = standing

    def __call__(self, number):
        """Goes on until the next deed or the end of a request, and returns what the last go returns."""
        need_under_way(self.state, number)
        request, place, kept, row, before = self.state.tracks[number]
        for step in range(MOST_ASKS):
            if request.places[place][0] != "ask":
                break
            place, kept, deed = behind_go(request, place, self.state.now, kept)
        else:
            raise TooMany(MOST_ASKS)
        self.state.tracks[number] = (request, place, kept, row, before)
        return self.go(number)

    def trial(self):
        """For one with statement: when its block ends, the live is what it was when the block began."""
        return Trial(self)


class Trial:
    """A block in which a live is tried."""

    def __init__(self, tested):
        self.tested = tested
        self.before = tested.state

    def __enter__(self):
        self.before = self.tested.state
        self.tested.state = self.before.copied()
        return self.tested

    def __exit__(self, kind, value, trace):
        self.tested.state = self.before


def tried(live, function):
    """What the function returns of the live, which is the same afterwards as before."""
    with live.trial() as same:
        return function(same)


def need_under_way(state, number):
    """BadNumber for any value that is no number of a request under way."""
    if not is_int(number) or number not in state.tracks:
        raise BadNumber(number)


def lived_through(state, before):
    """A list of the standings now and since this many switches were made, ascending, each once."""
    return sorted(set(state.left[before:] + [state.now]))


def all_of(live):
    """What is the same of two equal lives."""
    state = live.state
    under_way = [(number, state.tracks[number][:4], lived_through(state, state.tracks[number][4]))
                 for number in state.tracks]
    return (live.rules, state.now, len(state.left), state.begun_many, under_way, state.done)
