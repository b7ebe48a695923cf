"""The refusals, one class for each; none stands under another but FareError."""


class FareError(ValueError):
    pass


class NoSale(FareError):
    pass


class NoClass(FareError):
    pass


class Over(FareError):
    pass


class Early(FareError):
    pass


class Done(FareError):
    pass


class TooMany(FareError):
    pass


class Twice(FareError):
    pass


class NoTurn(FareError):
    pass


class Full(FareError):
    pass


class NoRow(FareError):
    pass
