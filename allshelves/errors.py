"""The errors of the package, one class for each kind of failure."""


class ShelfError(Exception):
    """The base class of all errors of the package."""


class BadWord(ShelfError):
    """A value that is not a word, or not one of the words asked for."""

    def __init__(self, thing):
        self.thing = thing


class BadNumber(ShelfError):
    """A value that is not an integer in the range asked for."""

    def __init__(self, thing):
        self.thing = thing


class BadProtocol(ShelfError):
    """A value that is not a protocol, or not a role of one."""

    def __init__(self, thing):
        self.thing = thing


class BadStanding(ShelfError):
    """A value that is not a standing of the protocol."""

    def __init__(self, thing):
        self.thing = thing


class BadStep(ShelfError):
    """A value that is not a step that can be done."""

    def __init__(self, thing):
        self.thing = thing


class BadSteps(ShelfError):
    """A value that is not a row of steps."""

    def __init__(self, thing):
        self.thing = thing


class BadPlace(ShelfError):
    """A value that is not a place, or not the places asked for."""

    def __init__(self, thing):
        self.thing = thing


class BadRow(ShelfError):
    """A value that is not a row of a log."""

    def __init__(self, thing):
        self.thing = thing


class BadRows(ShelfError):
    """A value that is not a tuple of rows of a log."""

    def __init__(self, thing):
        self.thing = thing


class BadText(ShelfError):
    """A text that is wrong at a line or character."""

    def __init__(self, at):
        self.at = at


class BadDevice(ShelfError):
    """A value that is not a device, or not one that can be used so."""

    def __init__(self, thing):
        self.thing = thing


class BadLost(ShelfError):
    """A value that is not a set of sectors that can be lost."""

    def __init__(self, thing):
        self.thing = thing


class BadPages(ShelfError):
    """A value that is not pages."""

    def __init__(self, thing):
        self.thing = thing


class BadLocks(ShelfError):
    """A value that is not locks."""

    def __init__(self, thing):
        self.thing = thing


class BadDeal(ShelfError):
    """A value that is not a deal, or not one that can do this."""

    def __init__(self, thing):
        self.thing = thing


class BadKind(ShelfError):
    """A value that is not a kind of lock."""

    def __init__(self, thing):
        self.thing = thing


class BadWeb(ShelfError):
    """A value that is not a web of waits."""

    def __init__(self, thing):
        self.thing = thing


class BadHouse(ShelfError):
    """A value that is not a house."""

    def __init__(self, thing):
        self.thing = thing


class BadWorth(ShelfError):
    """A value that is not a worth."""

    def __init__(self, thing):
        self.thing = thing


class BadBool(ShelfError):
    """A value that is not a bool."""

    def __init__(self, thing):
        self.thing = thing


class BadEnd(ShelfError):
    """A value that is not an end that the deal can have."""

    def __init__(self, thing):
        self.thing = thing


class BadStore(ShelfError):
    """A value that is not a store."""

    def __init__(self, thing):
        self.thing = thing


class BadEvent(ShelfError):
    """A value that is not a thing that can happen."""

    def __init__(self, thing):
        self.thing = thing


class BadHistory(ShelfError):
    """A value that is not a history."""

    def __init__(self, thing):
        self.thing = thing


class BadDisks(ShelfError):
    """A value that is not disks."""

    def __init__(self, thing):
        self.thing = thing


class BadWish(ShelfError):
    """A value that is not a wish."""

    def __init__(self, thing):
        self.thing = thing


class Down(ShelfError):
    """The house is down."""


class Up(ShelfError):
    """The house is up."""


class TooLate(ShelfError):
    """The deal cannot read or write there now."""

    def __init__(self, deal):
        self.deal = deal


class NotShown(ShelfError):
    """The run does not show the wish."""

    def __init__(self, wish):
        self.wish = wish


class NothingToUndo(ShelfError):
    """The run has no thing that could be removed."""


class NothingToRedo(ShelfError):
    """No thing was removed that could be appended again."""
