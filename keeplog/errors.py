"""The refusals, each a class of its own below LogError."""


class LogError(ValueError):
    pass


class NoLetter(LogError):
    pass


class NoPlace(LogError):
    pass


class NoKeeper(LogError):
    pass


class NoRoom(LogError):
    pass


class NoSchedule(LogError):
    pass
