"""The refusals, one class for each; all of them are taken at once as RoundError."""


class RoundError(ValueError):
    pass


class NoRun(RoundError):
    pass


class NoBound(RoundError):
    pass


class NoNumbers(RoundError):
    pass


class Closed(RoundError):
    pass


class NoText(RoundError):
    pass


class NoRow(RoundError):
    pass


class NoName(RoundError):
    pass
