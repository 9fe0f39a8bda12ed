"""The refusals: every one stands straight under WayError."""


class WayError(ValueError):
    pass


# The values may be anything, so none of them is put into words here:
# Python refuses to write out a very long number.


class NoMachine(WayError):
    def __init__(self, part, room):
        self.part = part
        self.room = room


class NoText(WayError):
    def __init__(self, at):
        self.at = at


class NoStrip(WayError):
    def __init__(self, at):
        self.at = at


class NoName(WayError):
    def __init__(self, name):
        self.name = name


class NoLine(WayError):
    def __init__(self, line):
        self.line = line


class TooMany(WayError):
    pass


class NotLike(WayError):
    pass


class NoWord(WayError):
    pass


class NoBorder(WayError):
    pass


class NothingDone(WayError):
    pass
