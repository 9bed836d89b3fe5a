"""The refusals: one class for each reason, all under RootError and none under another one."""


class RootError(ValueError):
    pass


class NoRatio(RootError):
    pass


class ByNought(RootError):
    pass


class NoPart(RootError):
    pass


class TooGreat(RootError):
    pass


class BelowNought(RootError):
    pass


class NoRow(RootError):
    pass


class NoRoot(RootError):
    def __init__(self, many):
        self.many = many


class TooHigh(RootError):
    def __init__(self, degree):
        self.degree = degree


class NoText(RootError):
    def __init__(self, at):
        self.at = at


class NoName(RootError):
    def __init__(self, name):
        self.name = name
