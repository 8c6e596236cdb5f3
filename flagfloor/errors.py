"""The refusals of the program, each with a class of its own."""


class FloorError(ValueError):
    pass


class NoFloor(FloorError):
    pass


class NoLaying(FloorError):
    pass


class NoNumber(FloorError):
    pass


class NoTurn(FloorError):
    pass


class NotPlain(FloorError):
    pass


class NoNote(FloorError):
    pass
