"""Books: settings, the starts of requests, and the switches that are allowed."""

from midswitch.errors import BadSettings, BadStarts, BadSwitches
from midswitch.groups import groups_of
from midswitch.settings import grid_of, is_standing, need_settings, need_standing


class Book:
    """Settings, starts and switches; a book never changes."""

    def __init__(self, settings, *, starts=None, switches=None):
        self.settings = need_settings(settings)
        self.grid = tuple(grid_of(settings))
        if starts is None:
            starts = self.grid
        if switches is None:
            switches = near_pairs(settings, self.grid)
        self.starts = need_starts(settings, starts)
        self.switches = need_switches(settings, switches)
        self.groups = groups_of(self.grid, self.switches)

    def __len__(self):
        return len(self.grid)

    def __contains__(self, x):
        return is_standing(self.settings, x)

    def __eq__(self, other):
        return (isinstance(other, Book) and self.settings == other.settings
                and self.starts == other.starts and self.switches == other.switches)

    def __and__(self, other):
        if not isinstance(other, Book):
            return NotImplemented
        if self.settings != other.settings:
            raise BadSettings(None)
        starts = tuple([start for start in self.starts if start in other.starts])
        switches = tuple([switch for switch in self.switches if switch in other.switches])
        return Book(self.settings, starts=starts, switches=switches)

    def after(self, standing):
        """The standings to which this one can be switched, ascending."""
        need_standing(self.settings, standing)
        return tuple([second for first, second in self.switches if first == standing])

    def starting(self, *starts):
        """A book with these starts, which may stand in any order."""
        for at, start in enumerate(starts):
            if not is_standing(self.settings, start) or start in starts[:at]:
                raise BadStarts(at)
        return Book(self.settings, starts=tuple(sorted(starts)), switches=self.switches)


def near_pairs(settings, grid):
    """All pairs of standings that differ in one setting alone, by 1, ascending."""
    return tuple([(first, second) for first in grid for second in near_to(settings, first)])


def near_to(settings, standing):
    """A list of the standings that differ from this one in one setting alone, by 1, ascending."""
    below = [moved(standing, at, -1) for at, value in enumerate(standing) if value > 0]
    above = [moved(standing, at, 1) for at, (name, most) in enumerate(settings) if standing[at] < most]
    return below + above[::-1]


def moved(standing, at, way):
    """The standing with this setting raised by so much."""
    return standing[:at] + (standing[at] + way,) + standing[at + 1:]


def need_starts(settings, starts):
    """The starts themselves, if they are starts over the settings."""
    if not isinstance(starts, tuple):
        raise BadStarts(None)
    wrong = first_wrong(starts, [is_standing(settings, start) for start in starts])
    if wrong is not None:
        raise BadStarts(wrong)
    return starts


def need_switches(settings, switches):
    """The switches themselves, if they are switches over the settings."""
    if not isinstance(switches, tuple):
        raise BadSwitches(None)
    wrong = first_wrong(switches, [is_switch(settings, switch) for switch in switches])
    if wrong is not None:
        raise BadSwitches(wrong)
    return switches


def is_switch(settings, thing):
    """Whether any value is a pair of two different standings."""
    if not isinstance(thing, tuple) or len(thing) != 2:
        return False
    first, second = thing
    return is_standing(settings, first) and is_standing(settings, second) and first != second


def first_wrong(things, good):
    """The number of the first thing that is not good, or not above the one before it; None if all are right."""
    for at, thing in enumerate(things):
        if not good[at] or (at > 0 and thing <= things[at - 1]):
            return at
    return None
