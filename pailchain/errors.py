"""The refusals: one error class for each, all straight under PailError."""


class PailError(ValueError):
    """Any refusal; its field word is the text by which the refusal is told."""

    def __init__(self, word):
        ValueError.__init__(self, word)
        self.word = word


class BadWay(PailError):
    def __init__(self):
        PailError.__init__(self, "bad way")


class BadPlace(PailError):
    def __init__(self):
        PailError.__init__(self, "bad place")


class BadName(PailError):
    def __init__(self):
        PailError.__init__(self, "bad name")


class Taken(PailError):
    def __init__(self):
        PailError.__init__(self, "taken")


class BadPace(PailError):
    def __init__(self):
        PailError.__init__(self, "bad pace")


class Full(PailError):
    def __init__(self):
        PailError.__init__(self, "full")


class NoHand(PailError):
    def __init__(self):
        PailError.__init__(self, "no hand")


class Called(PailError):
    def __init__(self):
        PailError.__init__(self, "called")


class NotCalled(PailError):
    def __init__(self):
        PailError.__init__(self, "not called")


class NoNext(PailError):
    def __init__(self):
        PailError.__init__(self, "no next")


class BadTime(PailError):
    def __init__(self):
        PailError.__init__(self, "bad time")


class TooLong(PailError):
    def __init__(self):
        PailError.__init__(self, "too long")


class BadCount(PailError):
    def __init__(self):
        PailError.__init__(self, "bad count")


class Nobody(PailError):
    def __init__(self):
        PailError.__init__(self, "nobody")


class NoPail(PailError):
    def __init__(self):
        PailError.__init__(self, "no pail")


class NotRising(PailError):
    def __init__(self):
        PailError.__init__(self, "not rising")


class BadLabour(PailError):
    def __init__(self):
        PailError.__init__(self, "bad labour")


class Busy(PailError):
    def __init__(self):
        PailError.__init__(self, "busy")


class NoChain(PailError):
    def __init__(self):
        PailError.__init__(self, "no chain")


class Idle(PailError):
    def __init__(self):
        PailError.__init__(self, "idle")


class NothingLeft(PailError):
    def __init__(self):
        PailError.__init__(self, "nothing left")


class BadText(PailError):
    def __init__(self):
        PailError.__init__(self, "bad text")
