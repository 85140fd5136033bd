"""A slow account of points [13] to [21], written from the document's words alone, to compare the program with."""

import random

from midswitch.books import Book
from midswitch.requests import MODES, Request
from midswitch.settings import standings

WIDE = ((("a", 3),), (("a", 2), ("b", 1)), (("b", 2), ("a", 3)), (("c", 1), ("b", 2), ("a", 1)))


def names(request):
    return [name for name, most in request.settings]


def plain(request, standing):
    """The plain row, or None."""
    number, row = 0, ()
    for step in range(200):
        place = request.places[number]
        if place == ("end",):
            return row
        if place[0] == "do":
            row += (place[1],)
            number = place[2]
        else:
            number = place[2][standing[names(request).index(place[1])]]
    return None


class State:
    """Where a run stands: all that the points [13] to [16] say of it."""

    def __init__(self, book, request, start):
        self.book = book
        self.request = request
        self.place = 0
        self.standing = start
        self.read = {name: value for name, value, mode in zip(names(request), start, request.modes) if mode == "begin"}
        self.row = ()
        self.lived = {start}

    def copied(self):
        other = State(self.book, self.request, self.standing)
        other.place, other.read, other.row, other.lived = self.place, dict(self.read), self.row, set(self.lived)
        return other

    def moved(self, move):
        """The state behind a move, or None if it cannot be made."""
        if self.place is None or not (move == ("go",) or (self.standing, move[1]) in self.book.switches):
            return None
        after = self.copied()
        if move[0] == "to":
            after.standing = move[1]
            after.lived.add(move[1])
            return after
        place = self.request.places[self.place]
        if place == ("end",):
            after.place = None
        elif place[0] == "do":
            after.row += (place[1],)
            after.place = place[2]
        else:
            after.place = place[2][after.asked(place[1])]
        return after

    def asked(self, name):
        at = names(self.request).index(name)
        value = self.read.get(name, self.standing[at])
        if self.request.modes[at] == "met":
            self.read[name] = value
        return value

    def moves(self):
        return [("go",)] + [("to", standing) for standing in standings(self.request.settings)]

    def is_torn(self):
        """Whether the run is whole and torn."""
        return self.place is None and self.row not in [plain(self.request, standing) for standing in self.lived]

    def node(self):
        match = []
        for standing in standings(self.request.settings):
            row = plain(self.request, standing)
            if row is not None and row[:len(self.row)] == self.row:
                match.append((standing, 1 if standing in self.lived else 0))
        kept = tuple([self.read.get(name, -1) for name in names(self.request)])
        return (self.place, self.standing, kept, len(self.row) if match else 0, tuple(match))

    def key(self):
        """The same for two states behind which the same happens: of a row that fits nowhere nothing else matters."""
        fits = self.node()[4]
        return (self.place, self.standing, tuple(sorted(self.read.items())), self.row if fits else None,
                tuple(sorted(self.lived)))


def followed(book, request, run):
    """The state behind a run, or the number of its first move that cannot be made."""
    start, moves = run
    state = State(book, request, start)
    for at, move in enumerate(moves):
        state = state.moved(move)
        if state is None:
            return at
    return state


def all_states(book, request):
    """Pairs of a state and the least number of moves to it: of each kind of state, the nearest ones first."""
    seen = {}
    waiting = [(State(book, request, start), 0) for start in book.starts]
    for state, many in waiting:
        if state.key() not in seen:
            seen[state.key()] = (state, many)
            if state.place is not None:
                after = [state.moved(move) for move in state.moves()]
                waiting += [(other, many + 1) for other in after if other is not None]
    return list(seen.values())


def nodes(states):
    return tuple(sorted({state.node() for state, many in states if state.place is not None}))


def fewest_torn(states):
    """The least number of moves of a torn run, or None."""
    return min([many for state, many in states if state.is_torn()], default=None)


def fewest_to_row(book, request, row):
    """The least number of moves of a whole right run with this row, or None."""
    seen = set()
    waiting = [(State(book, request, start), 0) for start in book.starts]
    for state, many in waiting:
        if state.place is None and state.row == row:
            return many
        key = (state.place, state.standing, tuple(sorted(state.read.items())), state.row)
        if key not in seen and state.row == row[:len(state.row)]:
            seen.add(key)
            after = [state.moved(move) for move in state.moves()]
            waiting += [(other, many + 1) for other in after if other is not None]
    return None


def random_request(rng, settings, many, modes=None):
    """Mostly deeds and asks that lead on to an end, and some ways back."""
    def number(at):
        return rng.randrange(at + 1, many) if at + 1 < many and rng.random() < 0.8 else rng.randrange(many)
    places = []
    for at in range(many):
        word = "end" if at == many - 1 else rng.choice(("do", "do", "do", "ask", "ask", "ask", "end"))
        name, most = rng.choice(settings)
        if word == "do":
            places.append(("do", rng.choice("wxyz"), number(at)))
        elif word == "ask":
            places.append(("ask", name, tuple([number(at) for value in range(most + 1)])))
        else:
            places.append(("end",))
    return Request(settings, tuple(places), modes or tuple([rng.choice(MODES + ("live", "live")) for setting in settings]))


def random_book(rng, settings):
    starts = [standing for standing in standings(settings) if rng.random() < 0.5]
    pairs = [(one, other) for one in standings(settings) for other in standings(settings) if one != other]
    switches = [pair for pair in pairs if rng.random() < 0.3]
    return Book(settings, starts=tuple(starts), switches=tuple(switches))


def random_cases(many, seed):
    """Pairs of a small book and a small request of it; the same ones in each run of the tests."""
    rng = random.Random(seed)
    for case in range(many):
        settings = rng.choice(((("a", 1),), (("a", 2),), (("a", 1), ("b", 1))))
        yield random_book(rng, settings), random_request(rng, settings, rng.randint(3, 9))


def wide_cases(many, seed):
    """Books of up to 12 standings, with a few switches, and requests of up to 16 places."""
    rng = random.Random(seed)
    for case in range(many):
        settings = rng.choice(WIDE)
        book = random_book(rng, settings)
        few = tuple([switch for switch in book.switches if rng.random() < 0.2])
        yield (Book(settings, starts=book.starts[:3], switches=few),
               random_request(rng, settings, rng.randint(3, 16)))


def is_torn_in(book, request, window):
    """Whether some run of the request that lives in the window is torn, points [16] and [22]."""
    waiting = [(at, State(book, request, standing)) for at, standing in enumerate(window)]
    seen = set()
    for at, state in waiting:
        if state.is_torn():
            return True
        if (at, state.key()) not in seen and state.place is not None:
            seen.add((at, state.key()))
            waiting.append((at, state.moved(("go",))))
            if at + 1 < len(window):
                waiting.append((at + 1, state.moved(("to", window[at + 1]))))
    return False


def is_safe(book, requests, window):
    return not any(is_torn_in(book, request, window) for request in requests)


def least_costs(book, requests, first, last, most):
    """The least pair of waits and switches of a safe plan with at most so many switches, or None."""
    known = {}

    def safe(window):
        if window not in known:
            known[window] = is_safe(book, requests, window)
        return known[window]

    level, waits = {((first,), 0)}, 0
    while waits <= most + 1:
        within = set(level)
        growing = list(within)
        for window, switches in growing:
            for second in book.after(window[-1]):
                longer = (window + (second,), switches + 1)
                if switches < most and longer not in within and safe(longer[0]):
                    within.add(longer)
                    growing.append(longer)
        done = [switches for window, switches in within if window[-1] == last]
        if done:
            return (waits, min(done))
        least = {}
        for window, switches in within:
            least[window[-1]] = min(switches, least.get(window[-1], switches))
        level, waits = {((standing,), switches) for standing, switches in least.items()}, waits + 1
    return None


def situations_behind(book, request, states, name=None):
    """All situations, a State for each, behind these by a deed with this name (None: by no deed) and silent moves."""
    if name is not None:
        deeds = [state for state in states if request.places[state.place][:2] == ("do", name)]
        states = [state.moved(("go",)) for state in deeds]
    found = {}
    waiting = list(states)
    for state in waiting:
        key = (state.place, state.standing, tuple(sorted(state.read.items())))
        if state.place is not None and key not in found:
            found[key] = state
            moves = state.moves() if request.places[state.place][0] != "do" else state.moves()[1:]
            waiting += [after for after in [state.moved(move) for move in moves] if after is not None]
    return found


def row_pairs(book, one, other):
    """A dict: for each pair of sets of situations the first row that leads to it, and whether each of the two can end."""
    names = sorted({place[1] for place in one.places + other.places if place[0] == "do"})
    firsts = [situations_behind(book, request, [State(book, request, start) for start in book.starts])
              for request in (one, other)]
    pairs = {}
    waiting = [((), firsts)]
    for row, sets in waiting:
        key = tuple([frozenset(found) for found in sets])
        if any(key) and key not in pairs:
            ends = [any(request.places[place] == ("end",) for place, standing, read in found)
                    for request, found in zip((one, other), sets)]
            pairs[key] = (row, ends)
            for name in names:
                waiting.append((row + (name,), [situations_behind(book, request, list(found.values()), name)
                                                for request, found in zip((one, other), sets)]))
    return pairs


def first_unlike(pairs):
    unlike = [(len(row), row, 0 if ends[0] else 1) for row, ends in pairs.values() if ends[0] != ends[1]]
    return (min(unlike)[2], min(unlike)[1]) if unlike else None


def asking_request(rng, settings, many, modes=None):
    """Asks one behind the other, each with a deed of its own for each value: it is easily torn."""
    places = []
    for at in range(many):
        name, most = rng.choice(settings)
        first = len(places) + 1
        behind = first + most + 1
        places.append(("ask", name, tuple([first + value for value in range(most + 1)])))
        places += [("do", "uvwxyz"[2 * at % 6 + value % 2], behind) for value in range(most + 1)]
    places.append(("end",))
    return Request(settings, tuple(places), modes or tuple([rng.choice(MODES + ("live",)) for setting in settings]))


def asking_cases(many, seed, settings=(("a", 1), ("b", 1))):
    """Triples of a random source, a book, and one to three such requests."""
    rng = random.Random(seed)
    for case in range(many):
        book = random_book(rng, settings) if rng.random() < 0.4 else Book(settings)
        yield rng, book, tuple([asking_request(rng, settings, rng.randint(1, 3)) for at in range(rng.randint(1, 3))])


def random_window(rng, book, more):
    window = [rng.choice(list(standings(book.settings)))]
    while rng.random() < more and book.after(window[-1]):
        window.append(rng.choice(book.after(window[-1])))
    return tuple(window)
