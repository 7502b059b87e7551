"""The refusals of the program: one class each, all under TwistError."""


class TwistError(ValueError):
    pass


class NoWord(TwistError):
    pass


class NoNumber(TwistError):
    pass


class NoSum(TwistError):
    pass


class TooGreat(TwistError):
    pass


class NotRead(TwistError):
    pass
