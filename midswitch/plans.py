"""Windows, plans and waits: how settings are switched without a torn request, points [22] and [23]."""

from midswitch.charts import ENDED, Chart, first_code, goer, way_to
from midswitch.errors import BadPlan, BadWindow, TooMany
from midswitch.settings import is_standing, need_standing

MOST_TO_PLAN = 6


class Stream:
    """A request of which new ones begin at each moment and go on at any moments, while settings are switched."""

    def __init__(self, book, request):
        self.chart = Chart(book, request)
        self.gone = goer(self.chart, request.modes)
        self.beginning = [first_code(self.chart, request.modes, standing) for standing in book.grid]

    def begun(self, number):
        """The codes under way in a window of the standing with this number alone."""
        return self.settled([self.beginning[number]])

    def switched(self, codes, number):
        """The codes under way behind a switch to the standing with this number, or None if one of them is torn."""
        turned = [self.chart.turned_to(code, number) for code in codes]
        return self.settled([*turned, self.beginning[number]])

    def settled(self, codes):
        """An ascending tuple of the codes to which one comes from these without a switch, or None if one is torn.

        Of codes that differ in the standings lived through alone it has the least one. Each request has lived through
        the last standings of the window, so that one has lived through the fewest, and is torn if any of them is. Codes
        at an end are left out: if they are not torn now, they never will be.
        """
        # Read off an attribute once, since most of the time is spent in this loop.
        gone, members_at = self.gone, self.chart.members_at
        least = {}
        waiting = list(codes)
        while waiting:
            code = waiting.pop()
            cell = code >> members_at
            if cell not in least or code < least[cell]:
                after = gone(code)
                if after != ENDED:
                    least[cell] = code
                    waiting.append(after)
                elif self.chart.is_torn_at_end(code):
                    return None
        return tuple(sorted(list(least.values())))


def is_safe(book, requests, window):
    """Whether no run of the requests that lives in the window is torn."""
    if not isinstance(window, tuple) or len(window) == 0:
        raise BadWindow(None)
    wrong = first_wrong_step(book, window)
    if wrong is not None:
        raise BadWindow(wrong)
    return is_safe_for(book, streams_of(book, requests), window)


def check_plan(book, requests, plan):
    """How many waits a safe plan has."""
    if not isinstance(plan, tuple) or len(plan) == 0:
        raise BadPlan(None)
    streams = streams_of(book, requests)
    for at, window in enumerate(plan):
        if not is_window(book, window) or (at > 0 and window[0] != plan[at - 1][-1]):
            raise BadPlan(at)
        if not is_safe_for(book, streams, window):
            raise BadPlan(at)
    return len(plan) - 1


def least_plan(book, requests, first, last):
    """A safe plan with as few waits as possible, and of these one with as few switches as possible, or None."""
    need_standing(book.settings, first)
    need_standing(book.settings, last)
    if len(book) > MOST_TO_PLAN:
        raise TooMany(MOST_TO_PLAN)
    way = least_way(book, streams_of(book, requests), book.grid.index(first), book.grid.index(last))
    return None if way is None else plan_of(book, way)


def streams_of(book, requests):
    """A list of the streams of these requests."""
    return [Stream(book, request) for request in requests]


def first_wrong_step(book, window):
    """The number of the first item that is no standing, or not behind a switch from the one before it, or None."""
    for at, standing in enumerate(window):
        if not is_standing(book.settings, standing):
            return at
        if at > 0 and (window[at - 1], standing) not in book.switches:
            return at
    return None


def is_window(book, thing):
    """Whether any value is a window."""
    return isinstance(thing, tuple) and len(thing) > 0 and first_wrong_step(book, thing) is None


def is_safe_for(book, streams, window):
    """Whether no request of these streams that lives in the window is torn."""
    numbers = [book.grid.index(standing) for standing in window]
    stage = begun_stage(streams, numbers[0])
    for number in numbers[1:]:
        stage = switched_stage(streams, stage, number)
        if stage is None:
            return False
    return True


def begun_stage(streams, number):
    """What is under way at the first standing of a window: its number, and the codes of each stream."""
    return (number, tuple([stream.begun(number) for stream in streams]))


def switched_stage(streams, stage, number):
    """What is under way behind a switch to the standing with this number, or None if something is torn."""
    under_way = []
    for stream, codes in zip(streams, stage[1]):
        after = stream.switched(codes, number)
        if after is None:
            return None
        under_way.append(after)
    return (number, tuple(under_way))


def least_way(book, streams, first, last):
    """The stages of a safe plan with as few waits, and then as few switches, as possible, or None.

    A stage with the standing of the one before it begins a new window.
    """
    ways = {}
    waiting = {(0, 0): [(begun_stage(streams, first), None)]}
    begun = {first: True}
    while waiting:
        waits, switches = min(list(waiting))
        level = waiting.pop((waits, switches))
        for stage, before in level:
            if stage in ways:
                continue
            ways[stage] = before
            number = stage[0]
            if number == last:
                return way_to(ways, stage)
            behind = stages_behind(book, streams, stage)
            waiting.setdefault((waits, switches + 1), []).extend([(after, stage) for after in behind])
            # The first stage that comes to a standing has the fewest waits and switches, so others need not wait there.
            if number not in begun:
                begun[number] = True
                waiting.setdefault((waits + 1, switches), []).append((begun_stage(streams, number), stage))
    return None


def stages_behind(book, streams, stage):
    """A list of the stages behind all switches after which nothing is torn."""
    stages = [switched_stage(streams, stage, book.grid.index(standing))
              for standing in book.after(book.grid[stage[0]])]
    return [after for after in stages if after is not None]


def plan_of(book, way):
    """The plan with these stages."""
    windows = []
    for at, (number, under_way) in enumerate(way):
        standing = book.grid[number]
        if at == 0 or number == way[at - 1][0]:
            windows.append((standing,))
        else:
            windows[-1] = (*windows[-1], standing)
    return tuple(windows)
