"""The errors that the functions of this package raise for their arguments.

Each class derives from LampError straight, so that to catch one never catches another.
"""


class LampError(ValueError):
    """Any error of this package."""


class InvalidLamp(LampError):
    """The argument has to be a lamp of a net, free or stuck as the point wants it, and is not."""

    def __init__(self, value=None):
        self.value = value


class InvalidLamps(LampError):
    """The argument has to be a list of lamps as the point wants it, and is not."""

    def __init__(self, value=None):
        self.value = value


class InvalidTies(LampError):
    """The argument has to be ties of some lamps, and is not."""

    def __init__(self, value=None):
        self.value = value


class InvalidWishes(LampError):
    """The argument has to be wishes of some lamps, and is not."""

    def __init__(self, value=None):
        self.value = value


class InvalidNet(LampError):
    """The argument has to be a net, and is not."""

    def __init__(self, value=None):
        self.value = value


class InvalidMap(LampError):
    """The argument has to be a map to other lamps, and is not."""

    def __init__(self, value=None):
        self.value = value


class InvalidSetting(LampError):
    """The argument has to be a setting of a net, and is not."""

    def __init__(self, value=None):
        self.value = value


class InvalidRoad(LampError):
    """The argument has to be a road, and is not."""

    def __init__(self, value=None):
        self.value = value


class InvalidPiece(LampError):
    """The argument has to be a piece of a net, and is not."""

    def __init__(self, value=None):
        self.value = value


class InvalidWork(LampError):
    """The argument has to be a work of a piece, and is not."""

    def __init__(self, value=None):
        self.value = value


class InvalidPoints(LampError):
    """The argument has to be points of a piece, and is not."""

    def __init__(self, value=None):
        self.value = value


class InvalidHeights(LampError):
    """The argument has to be heights by points in a setting, or a slope, and is not."""

    def __init__(self, value=None):
        self.value = value


class InvalidCount(LampError):
    """The argument has to be a count, perhaps within bounds, or marks, and is not."""

    def __init__(self, value=None):
        self.value = value


class InvalidForm(LampError):
    """The argument has to be a form of a family, and is not."""

    def __init__(self, value=None):
        self.value = value


class InvalidShow(LampError):
    """The argument has to be a show of a net, and is not."""

    def __init__(self, value=None):
        self.value = value


class InvalidWeights(LampError):
    """The argument has to be weights of lamps, and is not."""

    def __init__(self, value=None):
        self.value = value


class InvalidChange(LampError):
    """The argument has to be a change by its form, or one that fits, and is not."""

    def __init__(self, value=None):
        self.value = value


class InvalidChanges(LampError):
    """The argument has to be a list of changes by their form, and is not."""

    def __init__(self, value=None):
        self.value = value


class InvalidHall(LampError):
    """The argument has to be a hall, and is not."""

    def __init__(self, value=None):
        self.value = value


class InvalidSpot(LampError):
    """The argument has to be a spot of a hall, and is not."""

    def __init__(self, value=None):
        self.value = value


class InvalidScript(LampError):
    """The argument has to be a script, and is not."""

    def __init__(self, value=None):
        self.value = value


class InvalidText(LampError):
    """The argument has to be a text that a writer makes, and is not."""

    def __init__(self, value=None):
        self.value = value


class InvalidLog(LampError):
    """The argument has to be a log of a hall, and is not."""

    def __init__(self, value=None):
        self.value = value


class Unlike(LampError):
    """The argument has to be alike the other one, or to share no lamp with it, as the point wants it, and is not."""

    def __init__(self, value=None):
        self.value = value


class Unpaired(LampError):
    """The argument has to be a piece that has points, and is not."""

    def __init__(self, value=None):
        self.value = value


class Apart(LampError):
    """The argument has to be a setting that is joined with the other one, and is not."""

    def __init__(self, value=None):
        self.value = value


class Refused(LampError):
    """What is asked for cannot be done as things stand; the point says with what."""

    def __init__(self, value=None):
        self.value = value


class NothingToUndo(LampError):
    """No command is left that could be taken back."""


class NothingToRedo(LampError):
    """No command was taken back that could be made again."""
