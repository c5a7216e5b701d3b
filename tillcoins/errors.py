"""The refusals: one class for each, all under TillError and none under another."""


class TillError(ValueError):
    pass


class BadSystem(TillError):
    pass


class BadSum(TillError):
    pass


class BadWay(TillError):
    pass


class BadNumber(TillError):
    pass


class NotOrderly(TillError):
    pass


class BadText(TillError):
    pass
