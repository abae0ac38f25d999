"""The refusals: one class for each, all of them right under HallError, so that none is taken for another one."""


class HallError(ValueError):
    pass


class NoFraction(HallError):
    pass


class NoShade(HallError):
    pass


class NoManner(HallError):
    pass


class NoGain(HallError):
    pass


class NoSixteenth(HallError):
    pass


class NoTip(HallError):
    pass


class NoTile(HallError):
    pass


class NoLayer(HallError):
    pass


class NoPlace(HallError):
    pass


class Within(HallError):
    pass


class TooMany(HallError):
    pass


class NoStand(HallError):
    pass


class NoBundle(HallError):
    pass
