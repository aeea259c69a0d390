"""The refusals of the program, one class for each."""


class WallError(ValueError):
    pass


class NoHouse(WallError):
    pass


class NoStand(WallError):
    pass


class NoHand(WallError):
    pass


class NoDeed(WallError):
    pass


class NoWall(WallError):
    pass


class NoCount(WallError):
    pass


class TooMany(WallError):
    pass


class NoText(WallError):
    pass


class NoRow(WallError):
    pass


class NoName(WallError):
    pass
