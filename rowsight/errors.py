"""The refusals of the program."""


class SightError(ValueError):
    pass


class BadRow(SightError):
    pass


class BadRings(SightError):
    pass


class NoSuch(SightError):
    pass


class BadSquare(SightError):
    pass
