"""The refusals. All of them lie below YardError, none below another."""


class YardError(ValueError):
    pass


class NoTurn(YardError):
    pass


class NoText(YardError):
    pass


class NoNumber(YardError):
    pass


class NotWithin(YardError):
    pass
