"""Which settings a request must keep so that it is never torn, points [13] and [24]."""

from midswitch.charts import Chart, ways_to_codes
from midswitch.requests import MODES
from midswitch.tables import MOST_NODES


def fewest_kept(book, request):
    """The first of the modes with as few words other than "live" as possible with which the request is not torn."""
    return min(all_kept(book, request), key=kept_many)


def all_kept(book, request):
    """A list of all modes with which the request is not torn, by the order of MODES, the first setting first."""
    # The modes matter to the moves alone, so one chart does for all of them.
    chart = Chart(book, request)
    return [modes for modes in all_modes(request.settings) if not is_torn_with(chart, modes)]


def is_torn_with(chart, modes):
    """Whether the request of the chart is torn with these modes."""
    ways, torn = ways_to_codes(chart, modes, MOST_NODES)
    return len(torn) > 0


def kept_many(modes):
    """How many words other than "live" the modes have."""
    return len(modes) - modes.count("live")


def all_modes(settings):
    """A list of all modes for these settings, by the order of MODES, the first setting compared first."""
    rows = [()]
    for setting in settings:
        rows = [(*row, mode) for row in rows for mode in MODES]
    return rows
