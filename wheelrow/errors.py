"""The errors that wheelrow refuses with, one for each refusal."""


class RestError(ValueError):
    pass


class BadRests(RestError):
    pass


class BadNumbers(RestError):
    pass


class BadRound(RestError):
    pass


class BadRest(RestError):
    pass


class BadCount(RestError):
    pass


class BadText(RestError):
    pass
