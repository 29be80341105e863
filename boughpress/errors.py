"""The refusals of Boughpress, one class for each."""


class PressError(ValueError):
    pass


class NoFraction(PressError):
    pass


class NoFrame(PressError):
    pass


class NoText(PressError):
    pass


class NoPlace(PressError):
    pass


class NoKnot(PressError):
    pass


class NoTree(PressError):
    pass


class NoSign(PressError):
    pass


class NothingTaken(PressError):
    pass


class NoBits(PressError):
    pass


class NoPress(PressError):
    pass


class NoPacket(PressError):
    pass


class NoRow(PressError):
    pass


class NoName(PressError):
    pass


class NoNumber(PressError):
    pass
