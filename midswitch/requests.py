"""Requests: places with deeds, asks and ends, and a mode for each setting."""

from midswitch.errors import BadModes, BadPlaces, BadSettings, Missing, TooMany
from midswitch.settings import is_int, is_name, names_of, need_settings, need_standing, order_of

MODES = ("live", "met", "begin")
MOST_PLACES = 16
END = ("end",)


class Request:
    """Places and modes over some settings; a request never changes."""

    def __init__(self, settings, places, modes=None):
        self.settings = need_settings(settings)
        self.places = need_places(settings, places)
        if modes is None:
            modes = ("live",) * len(settings)
        self.modes = need_modes(settings, modes)

    def __len__(self):
        return len(self.places)

    def __eq__(self, other):
        return (isinstance(other, Request) and self.settings == other.settings
                and self.places == other.places and self.modes == other.modes)

    def __add__(self, other):
        if not isinstance(other, Request):
            return NotImplemented
        if self.settings != other.settings:
            raise BadSettings(None)
        places = joined(self.places, other.places)
        if len(places) > MOST_PLACES:
            raise TooMany(MOST_PLACES)
        return Request(self.settings, places, self.modes)

    def keeping(self, **modes):
        """A request with other modes for the settings that are named."""
        names = names_of(self.settings)
        for name in modes:
            if name not in names:
                raise Missing(name)
        for name, mode in modes.items():
            if not is_mode(mode):
                raise BadModes(name)
        kept = tuple([modes.get(name, mode) for name, mode in zip(names, self.modes)])
        return Request(self.settings, self.places, kept)

    def with_modes(self, modes):
        """A request with these modes."""
        # Request itself would take None as "live" of all; here it is refused.
        return Request(self.settings, self.places, need_modes(self.settings, modes))

    @classmethod
    def straight(cls, settings, *names):
        """A request that does these deeds and ends, all modes live."""
        need_settings(settings)
        for at, name in enumerate(names):
            if not is_name(name):
                raise BadPlaces(at)
        if len(names) + 1 > MOST_PLACES:
            raise TooMany(MOST_PLACES)
        deeds = [("do", name, at + 1) for at, name in enumerate(names)]
        return cls(settings, (*deeds, END))

    def plain(self, standing):
        """The row under this standing if it does not change, or None if it goes on for ever."""
        need_standing(self.settings, standing)
        return plain_row(self.places, order_of(self.settings), standing)


def plain_row(places, order, standing):
    """The row of these places under a standing that does not change, or None if it goes on for ever."""
    row = []
    number = 0
    # A way that comes to more places than there are has been at one of them twice, and never ends.
    for step in range(len(places)):
        place = places[number]
        if place == END:
            return tuple(row)
        if place[0] == "do":
            row.append(place[1])
            number = place[2]
        else:
            number = place[2][standing[order[place[1]]]]
    return None


def need_places(settings, places):
    """The places themselves, if they are places over the settings."""
    if not isinstance(places, tuple) or not 1 <= len(places) <= MOST_PLACES:
        raise BadPlaces(None)
    for at, place in enumerate(places):
        if not is_place(settings, len(places), place):
            raise BadPlaces(at)
    return places


def is_place(settings, many, thing):
    """Whether any value is a place, among this many."""
    if not isinstance(thing, tuple):
        return False
    if len(thing) == 3 and thing[0] == "do":
        return is_name(thing[1]) and is_number(many, thing[2])
    if len(thing) == 3 and thing[0] == "ask":
        return is_ask(settings, many, thing[1], thing[2])
    return thing == END


def is_ask(settings, many, setting, nexts):
    """Whether any two values are a setting's name and a number of a place for each of its values."""
    for name, most in settings:
        if name == setting:
            right = isinstance(nexts, tuple) and len(nexts) == most + 1
            return right and all([is_number(many, number) for number in nexts])
    return False


def is_number(many, thing):
    """Whether any value is the number of one of this many places."""
    return is_int(thing) and 0 <= thing < many


def need_modes(settings, modes):
    """The modes themselves, if they are modes of the settings."""
    if not isinstance(modes, tuple) or len(modes) != len(settings):
        raise BadModes(None)
    for at, mode in enumerate(modes):
        if not is_mode(mode):
            raise BadModes(at)
    return modes


def is_mode(thing):
    """Whether any value is a mode."""
    return isinstance(thing, str) and thing in MODES


def joined(places, others):
    """The places of one request, and behind them those of another one, which goes on where the one ends."""
    if places[0] == END:
        return others
    many = len(places) - places.count(END)
    numbers = numbers_without_ends(places)
    raised = [many + at for at, place in enumerate(others)]
    mine = [renumbered(place, numbers) for place in places if place != END]
    theirs = [renumbered(place, raised) for place in others]
    return (*mine, *theirs)


def numbers_without_ends(places):
    """The new number of each place when the ends are left out; that of an end is the first one behind all."""
    many = len(places) - places.count(END)
    return [many if place == END else at - places[:at].count(END) for at, place in enumerate(places)]


def renumbered(place, numbers):
    """The place with the new number in place of each number."""
    if place[0] == "do":
        return ("do", place[1], numbers[place[2]])
    if place[0] == "ask":
        return ("ask", place[1], tuple([numbers[number] for number in place[2]]))
    return place
