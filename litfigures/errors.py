"""The refusals, one class for each."""


class LitError(ValueError):
    pass


class NoFigure(LitError):
    pass


class NoNumber(LitError):
    pass


class Clash(LitError):
    pass


class NoNote(LitError):
    pass
