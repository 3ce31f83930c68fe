"""The refusals: one class for each, all under KnellError and none under another one."""


class KnellError(ValueError):
    pass


class NoBeat(KnellError):
    pass


class NoBell(KnellError):
    pass


class TooMany(KnellError):
    pass


class Twice(KnellError):
    pass


class NoName(KnellError):
    pass


class Clash(KnellError):

    def __init__(self, first, second, divisor):
        self.first = first
        self.second = second
        self.divisor = divisor
