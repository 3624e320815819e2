"""The refusals: each stands straight beneath ClackError, none beneath another."""


class ClackError(ValueError):
    """What every refusal stands beneath."""


class NoRatio(ClackError):
    """No ratio can be made of this."""


class TooMany(ClackError):
    """More would come than are told."""


class NotEven(ClackError):
    """The row is not even, or the walls are not such as are asked for."""


class NoEnd(ClackError):
    """It may never end."""


class NoBall(ClackError):
    """There is no ball of this number."""


class NoPlace(ClackError):
    """The place is outside the walls."""


class NoRow(ClackError):
    """There is no row, or no weights that could make one."""


class NoText(ClackError):
    """The text doesn't read."""


class NoOrder(ClackError):
    """The desk knows no such order."""


class NoPast(ClackError):
    """Nothing is left to be taken back."""


class Together(ClackError):
    """Balls of unlike weights come together in a group that has no told outcome, at this moment."""

    # The words leave the moment out: Python refuses to write numbers of some thousand figures.
    def __init__(self, moment):
        ClackError.__init__(self, "too many balls of unlike weights come together")
        self.moment = moment


class Shut(ClackError):
    """The walls meet at this moment."""

    def __init__(self, moment):
        ClackError.__init__(self, "the walls meet")
        self.moment = moment
