"""The errors that the program raises (point 4)."""


class LacunaError(ValueError):
    """What all errors of the program are."""


class LimitError(LacunaError):
    """Something is larger than a limit that the document tells."""


class BadForm(LacunaError):
    """Something does not have the form that it must have."""


class BadName(LacunaError):
    """A constant, a predicate, a binder or a hole is not there."""


class BadType(LacunaError):
    """A term or a part does not have the type that is needed."""


class BadRule(LacunaError):
    """The rule with the index number is not of the class; -1 stands for a question."""

    def __init__(self, number):
        super().__init__(f"not of the class: {number}")
        self.number = number


class HasMatch(LacunaError):
    """There is a match where none may be."""


class NotPattern(LacunaError):
    """A problem is not one of patterns."""


class TextError(LacunaError):
    """A text cannot be read at the token with the number at."""

    def __init__(self, at):
        super().__init__(f"cannot be read at token {at}")
        self.at = at
