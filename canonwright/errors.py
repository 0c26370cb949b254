"""The refusals: one class for each, all of them under CanonError."""


class CanonError(ValueError):
    pass


class NoHouse(CanonError):
    pass


class NoVoice(CanonError):
    def __init__(self, number):
        self.number = number


class NoRule(CanonError):
    def __init__(self, number):
        self.number = number


class Broken(CanonError):
    def __init__(self, first):
        self.first = first


class TooMany(CanonError):
    pass


class NoNumber(CanonError):
    pass


class Unlike(CanonError):
    pass


class NoText(CanonError):
    pass


class NoRow(CanonError):
    pass


class NoNote(CanonError):
    pass
