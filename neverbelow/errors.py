"""The refusals of the program, each a class of its own."""


class BelowError(ValueError):
    pass


class NoNumber(BelowError):
    pass


class NoCurve(BelowError):
    pass


class TooGreat(BelowError):
    pass


class NoStretch(BelowError):
    pass


class NoNear(BelowError):
    pass


class NoPieces(BelowError):
    pass


class NoText(BelowError):
    pass


class NoRow(BelowError):
    pass


class NoName(BelowError):
    pass
