"""The refusals: one class for each, all under CastError."""


class CastError(ValueError):
    pass


class NoKind(CastError):
    pass


class NoTerm(CastError):
    pass


class BadUse(CastError):
    def __init__(self, path):
        self.path = path


class NoValue(CastError):
    pass


class NoNumber(CastError):
    pass


class BadNote(CastError):
    pass
