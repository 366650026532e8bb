"""Comparisons of integers of two types that go wrong since both are converted to the common type."""

from castforms.models import bits_of, check_kind, check_model, common_kind, is_unsigned, limits_of


def _checked_signed_one(model, first, second):
    """Of two types the one with negative integers that their common type does not hold, None if there is none."""
    check_model(model)
    check_kind(first)
    check_kind(second)
    # A signed common type holds all that both types hold, and where both are signed it is signed, too.
    if not is_unsigned(model, common_kind(model, first, second)):
        return None
    for kind in (first, second):
        if not is_unsigned(model, kind):
            return kind
    return None


def count_wrong(model, first, second):
    """The number of the pairs of integers of two types whose comparison goes wrong."""
    signed = _checked_signed_one(model, first, second)
    if signed is None:
        return 0
    # A negative integer becomes one of the greatest of the common type, which has as many bits as the unsigned one:
    # not less than itself and all integers below, while the negative one is less than all integers.
    many = -limits_of(model, signed)[0]
    greatest = (1 << bits_of(model, common_kind(model, first, second))) - 1
    integers_below = many * (2 * greatest - many + 1) // 2
    return integers_below + many if signed == first else integers_below


def first_wrong(model, first, second):
    """The least pair of integers of two types whose comparison goes wrong, None if there is none."""
    signed = _checked_signed_one(model, first, second)
    if signed is None:
        return None
    # The conversion makes a negative integer greater than 0.
    least = limits_of(model, signed)[0]
    return (least, 0) if signed == first else (0, least)
