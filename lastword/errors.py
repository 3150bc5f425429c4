"""The refusals: one class for each, all under HouseError."""


class HouseError(ValueError):
    pass


class NoSlot(HouseError):
    pass


class NoGuard(HouseError):
    pass


class NoBox(HouseError):
    pass


class NoField(HouseError):
    pass


class NotThere(HouseError):
    pass


class AlreadyThere(HouseError):
    pass


class Crowded(HouseError):
    pass


class NoNote(HouseError):
    pass
