"""The refusals of Restfigures: each has its own class, straight under RestError."""


class RestError(ValueError):
    pass


class BadBase(RestError):
    pass


class TooGreat(RestError):
    pass


class BadFigure(RestError):
    pass


class Wrong(RestError):
    pass


class BadDivisor(RestError):
    pass


class BadPlace(RestError):
    pass


class Unlike(RestError):
    pass


class BadInput(RestError):
    pass


class RowTooGreat(RestError):
    def __init__(self, row):
        self.row = row


class BadText(RestError):
    def __init__(self, row):
        self.row = row
