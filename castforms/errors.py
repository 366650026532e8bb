"""The errors of the program; each one tells in `value` what is wrong."""


class CastError(ValueError):
    """What all errors of the program are."""


class InvalidModel(CastError):
    """No model: the index of a wrong width, or None."""

    def __init__(self, value):
        self.value = value


class InvalidType(CastError):
    """A string that is no type."""

    def __init__(self, value):
        self.value = value


class InvalidVariables(CastError):
    """The index of the first variable that is wrong."""

    def __init__(self, value):
        self.value = value


class InvalidExpression(CastError):
    """The path of the first node that is wrong."""

    def __init__(self, value):
        self.value = value


class InvalidValues(CastError):
    """The name of the first variable without a value in its range."""

    def __init__(self, value):
        self.value = value


class InvalidNumber(CastError):
    """A number or an index that is out of its range."""

    def __init__(self, value):
        self.value = value


class NotAdmitted(CastError):
    """The reason why a model does not admit variables and an expression."""

    def __init__(self, value):
        self.value = value


class NothingToUndo(CastError):
    """An undo of a project without a call that it could take back."""

    def __init__(self, value):
        self.value = value


class Unreadable(CastError):
    """A text that nothing has."""

    def __init__(self, value):
        self.value = value
