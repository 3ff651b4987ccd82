"""The refusals: one class for each, all straight under RoomError, so that none is taken for another."""


class RoomError(ValueError):
    pass


class NoPoint(RoomError):
    pass


class NoWay(RoomError):
    pass


class BadWall(RoomError):
    pass


class TooMany(RoomError):
    pass


class Overlap(RoomError):
    def __init__(self, one, other):
        RoomError.__init__(self, f"walls {one} and {other} have more than one point in common")
        self.one = one
        self.other = other


class OnWall(RoomError):
    def __init__(self, number):
        RoomError.__init__(self, f"the point lies on wall {number}")
        self.number = number


class Over(RoomError):
    pass


class TooLong(RoomError):
    pass


class OutOfBox(RoomError):
    pass


class BadDrawing(RoomError):
    def __init__(self, row):
        RoomError.__init__(self, f"row {row} is not one of a drawing")
        self.row = row


class NoText(RoomError):
    pass


class NoName(RoomError):
    pass


class NoRow(RoomError):
    pass
