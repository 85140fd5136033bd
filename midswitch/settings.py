"""Settings, and the standings that they can have."""

from midswitch.errors import BadSettings, BadStanding

MOST_SETTINGS = 3
MOST_VALUE = 3
MOST_STANDINGS = 12
LONGEST_NAME = 8


def is_int(thing):
    """Whether any value is an integer."""
    return isinstance(thing, int) and not isinstance(thing, bool)


def is_name(thing):
    """Whether any value is a name."""
    if not isinstance(thing, str) or len(thing) > LONGEST_NAME:
        return False
    # There are small letters beyond z, too, but not in ASCII.
    return thing.isascii() and thing.isalpha() and thing.islower()


def is_setting(thing):
    """Whether any value is a setting."""
    if not isinstance(thing, tuple) or len(thing) != 2:
        return False
    name, most = thing
    return is_name(name) and is_int(most) and 1 <= most <= MOST_VALUE


def need_settings(thing):
    """The thing itself, if it is settings."""
    if not isinstance(thing, tuple) or not 1 <= len(thing) <= MOST_SETTINGS:
        raise BadSettings(None)
    for at, setting in enumerate(thing):
        if not is_setting(setting) or setting[0] in names_of(thing[:at]):
            raise BadSettings(at)
    if len(grid_of(thing)) > MOST_STANDINGS:
        raise BadSettings("many")
    return thing


def names_of(settings):
    """The names of the settings, in their order."""
    return [name for name, most in settings]


def order_of(settings):
    """A dict with the number of each setting, by its name."""
    return {name: at for at, (name, most) in enumerate(settings)}


def grid_of(settings):
    """A list of all standings, ascending."""
    # Operators come to this when they make a Book or a Request, and those do without a generator.
    rows = [()]
    for name, most in settings:
        rows = [(*row, value) for row in rows for value in range(most + 1)]
    return rows


def standings(settings):
    """All standings, ascending."""
    yield from grid_of(settings)


def is_standing(settings, thing):
    """Whether any value is a standing of the settings."""
    if not isinstance(thing, tuple) or len(thing) != len(settings):
        return False
    for value, (name, most) in zip(thing, settings):
        if not is_int(value) or not 0 <= value <= most:
            return False
    return True


def need_standing(settings, thing):
    """BadStanding for any value that is no standing of the settings."""
    if not is_standing(settings, thing):
        raise BadStanding(thing)
