"""Single moves: what a request does at a place, and what it keeps of the settings, points [13] and [15]."""

from midswitch.requests import END
from midswitch.settings import names_of

GO = ("go",)
UNREAD = -1


def first_kept(request, start):
    """What is kept when a request begins at this standing."""
    return tuple([value if mode == "begin" else UNREAD for mode, value in zip(request.modes, start)])


def behind_go(request, number, standing, kept):
    """The next place (None behind an end), what is kept then, and the name of the deed (None if there is none)."""
    place = request.places[number]
    if place == END:
        return None, kept, None
    if place[0] == "do":
        return place[2], kept, place[1]
    at = names_of(request.settings).index(place[1])
    value = standing[at] if kept[at] == UNREAD else kept[at]
    if request.modes[at] == "met":
        kept = kept[:at] + (value,) + kept[at + 1:]
    return place[2][value], kept, None
