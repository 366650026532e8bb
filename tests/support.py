"""What several tests share."""

import copy

LP32 = ((8, 16, 16, 32, 64), "s")
KINDS = ["char", "schar", "uchar", "short", "ushort", "int", "uint", "long", "ulong", "wide", "uwide"]


def raised(function, *arguments, **named):
    """The class and the value of the error that a call raises, None if it raises none."""
    try:
        function(*arguments, **named)
    except ValueError as error:
        return type(error), error.value
    return None


def untouched(function, *arguments):
    """Whether a call leaves its arguments as they were, whether it raises or not."""
    before = copy.deepcopy(arguments)
    try:
        function(*arguments)
    except ValueError:
        pass
    return before == arguments
