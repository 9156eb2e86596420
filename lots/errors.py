"""The refusals: one class for each, all of them under LotsError."""


class LotsError(ValueError):
    pass


class NoNumber(LotsError):
    pass


class NoText(LotsError):
    pass


class NoProgram(LotsError):
    pass


class NoBound(LotsError):
    pass


class TooMany(LotsError):
    pass


class HandLeft(LotsError):
    pass


class NoneKept(LotsError):
    pass
