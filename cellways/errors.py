"""The refusals: each stands straight under FloorError, none under another."""


class FloorError(ValueError):
    pass


class NoSpot(FloorError):
    pass


class NoWay(FloorError):
    pass


class NoSign(FloorError):
    pass


class NoSize(FloorError):
    pass


class NoText(FloorError):
    pass


class NoFloor(FloorError):
    pass


class NoName(FloorError):
    pass


class NoFit(FloorError):
    pass


class NoBack(FloorError):
    pass
