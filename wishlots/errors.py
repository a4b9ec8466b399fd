"""The refusals: one class for each, all of them straight under WishError."""


class WishError(ValueError):
    pass


class NoFraction(WishError):
    pass


class NoWishes(WishError):
    pass


class NoTable(WishError):
    pass


class NoPick(WishError):
    pass


class NoOrder(WishError):
    pass


class NoRoll(WishError):
    pass


class NoPerson(WishError):
    pass


class Unready(WishError):
    pass


class NoWay(WishError):
    pass
