"""The errors of the package: each keeps the value that it was made with in one field."""


class SwitchError(ValueError):
    """An argument that is refused."""


class BadSettings(SwitchError):
    """place: the number of the wrong setting, "many" for too many standings, None for the whole."""

    def __init__(self, place):
        self.place = place


class BadStanding(SwitchError):
    """value: what was passed and is no standing."""

    def __init__(self, value):
        self.value = value


class BadStarts(SwitchError):
    """place: the number of the wrong start, None for the whole."""

    def __init__(self, place):
        self.place = place


class BadSwitches(SwitchError):
    """place: the number of the wrong switch, None for the whole."""

    def __init__(self, place):
        self.place = place


class BadPlaces(SwitchError):
    """place: the number of the wrong place, None for the whole."""

    def __init__(self, place):
        self.place = place


class BadModes(SwitchError):
    """place: the number, or the setting, of the wrong mode, None for the whole."""

    def __init__(self, place):
        self.place = place


class BadRun(SwitchError):
    """place: the number of the first move that cannot be made, None for the whole."""

    def __init__(self, place):
        self.place = place


class BadNode(SwitchError):
    """place: a word for the part of the node that is wrong."""

    def __init__(self, place):
        self.place = place


class BadPaper(SwitchError):
    """place: a word for what is wrong with the certificate."""

    def __init__(self, place):
        self.place = place


class BadWindow(SwitchError):
    """place: the number of the wrong standing, None for the whole."""

    def __init__(self, place):
        self.place = place


class BadPlan(SwitchError):
    """place: the number of the wrong window, None for the whole."""

    def __init__(self, place):
        self.place = place


class BadText(SwitchError):
    """line: the number, from 1, of the line that cannot stand there, None for the whole."""

    def __init__(self, line):
        self.line = line


class BadNumber(SwitchError):
    """value: what was passed and is not what was asked for."""

    def __init__(self, value):
        self.value = value


class Missing(LookupError):
    """name: the name that is not there."""

    def __init__(self, name):
        self.name = name


class TooMany(OverflowError):
    """most: how many there may be."""

    def __init__(self, most):
        self.most = most
