"""The refusals: one class for each, all under SpaceError."""


class SpaceError(ValueError):
    pass


class NoQuad(SpaceError):
    pass


class NoStone(SpaceError):
    pass


class NoGrid(SpaceError):
    pass


class NoDial(SpaceError):
    pass


class NoParts(SpaceError):
    pass


class NoWay(SpaceError):
    pass


class NoName(SpaceError):
    pass


class NoNumbers(SpaceError):
    pass


class NoRow(SpaceError):
    pass
