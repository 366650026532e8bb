"""Types in a data model: their bits and limits, promotion, common types, conversion.

A model is a tuple (widths, plain). The functions of the interface, at the end,
check their arguments. Those between the checks and them do not: they are for
callers that have checked before.
"""

from castforms.errors import InvalidModel, InvalidType

KINDS = ("char", "schar", "uchar", "short", "ushort", "int", "uint", "long", "ulong", "wide", "uwide")
# The types of the ranks 0 to 4. `char` has the sign that the model tells.
SIGNED = ("schar", "short", "int", "long", "wide")
UNSIGNED = ("uchar", "ushort", "uint", "ulong", "uwide")
RANKS = {
    "char": 0, "schar": 0, "uchar": 0, "short": 1, "ushort": 1, "int": 2, "uint": 2,
    "long": 3, "ulong": 3, "wide": 4, "uwide": 4,
}
INT_RANK = 2
PLAIN_SIGNS = ("s", "u")
LEAST_WIDTH = 2
GREATEST_WIDTH = 128
# More bits than any type has: what needs so many is never held.
UNHELD = 129


def check_widths(widths):
    """Widths check."""
    if len(widths) != len(SIGNED):
        raise InvalidModel(None)
    least = LEAST_WIDTH
    for at, bits in enumerate(widths):
        if bits < least or bits > GREATEST_WIDTH:
            raise InvalidModel(at)
        least = bits


def check_model(model):
    """Model check."""
    widths, plain = model
    check_widths(widths)
    if plain not in PLAIN_SIGNS:
        raise InvalidModel(None)


def check_kind(kind):
    """Type check."""
    if kind not in KINDS:
        raise InvalidType(kind)


def bits_of(model, kind):
    return model[0][RANKS[kind]]


def is_unsigned(model, kind):
    if kind == "char":
        return model[1] == "u"
    return kind in UNSIGNED


def limits_of(model, kind):
    bits = bits_of(model, kind)
    if is_unsigned(model, kind):
        return (0, (1 << bits) - 1)
    return (-(1 << (bits - 1)), (1 << (bits - 1)) - 1)


def is_held(model, kind, number):
    least, greatest = limits_of(model, kind)
    return least <= number <= greatest


def bits_for(low, high):
    """The bits with which a signed type and an unsigned one hold the integers from low to high."""
    # A negative integer takes as many bits as its complement.
    signed = max([(end if end >= 0 else ~end).bit_length() for end in (low, high)]) + 1
    return (signed, UNHELD if low < 0 else high.bit_length())


def wrapped(model, kind, number):
    """The integer of the type that is the number modulo 2 ** bits."""
    least, greatest = limits_of(model, kind)
    return (number - least) % (greatest - least + 1) + least


def promoted_kind(model, kind):
    if RANKS[kind] >= INT_RANK:
        return kind
    if is_unsigned(model, kind) and bits_of(model, kind) >= bits_of(model, "int"):
        return "uint"
    return "int"


def common_kind(model, first, second):
    one, other = promoted_kind(model, first), promoted_kind(model, second)
    if is_unsigned(model, one) == is_unsigned(model, other):
        return one if RANKS[one] >= RANKS[other] else other
    if is_unsigned(model, one):
        return _common_of_mixed(model, one, other)
    return _common_of_mixed(model, other, one)


def _common_of_mixed(model, unsigned, signed):
    if RANKS[unsigned] >= RANKS[signed]:
        return unsigned
    if bits_of(model, unsigned) < bits_of(model, signed):
        return signed
    return UNSIGNED[RANKS[signed]]


def width(model, kind):
    """The bits of a type."""
    check_model(model)
    check_kind(kind)
    return bits_of(model, kind)


def limits(model, kind):
    """The least and the greatest integer that a type holds."""
    check_model(model)
    check_kind(kind)
    return limits_of(model, kind)


def holds(model, kind, number):
    """Whether a type holds an integer."""
    check_model(model)
    check_kind(kind)
    return is_held(model, kind, number)


def promoted(model, kind):
    """The promoted type."""
    check_model(model)
    check_kind(kind)
    return promoted_kind(model, kind)


def converted(model, kind, number):
    """An integer converted to a type."""
    check_model(model)
    check_kind(kind)
    return wrapped(model, kind, number)


def common(model, first, second):
    """The common type of two types."""
    check_model(model)
    check_kind(first)
    check_kind(second)
    return common_kind(model, first, second)
