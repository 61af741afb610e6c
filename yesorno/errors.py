"""The refusals: each has a class of its own, so that it can be taken by name alone."""


class ChoiceError(ValueError):
    pass


class BadName(ChoiceError):
    pass


class BadTerm(ChoiceError):
    pass


class BadPart(ChoiceError):
    pass


class TooMany(ChoiceError):
    pass


class NoProblem(ChoiceError):
    pass


class NotJoined(ChoiceError):
    pass


class TooLong(ChoiceError):
    pass


class BadPaper(ChoiceError):
    pass


class HasChoice(ChoiceError):
    pass


class NoChoice(ChoiceError):
    pass
