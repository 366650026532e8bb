"""Sums of integers from ranges that go beyond a type."""

from math import comb

from castforms.errors import InvalidNumber
from castforms.models import check_kind, check_model, limits_of


def check_ranges(ranges):
    """Raises InvalidNumber with the index of the first range that ends before it begins."""
    for at, (low, high) in enumerate(ranges):
        if low > high:
            raise InvalidNumber(at)


def _ways_up_to(most, ranges):
    """The number of the ways to choose an integer from each range whose sum is at most a number."""
    room = most - sum([low for low, _ in ranges])
    # Without upper ends there are comb(room + n, n) ways to stay within the room. Those that go beyond the upper end
    # of one range or more are taken out again: ones that go beyond an odd number of ends are counted negative.
    rooms = [(room, 1)]
    for low, high in ranges:
        size = high - low + 1
        rooms = rooms + [(left - size, -sign) for left, sign in rooms]
    many = len(ranges)
    return sum([sign * comb(left + many, many) for left, sign in rooms if left >= 0])


def count_beyond(model, kind, ranges):
    """The number of the ways to choose an integer from each range such that a type does not hold the sum."""
    check_model(model)
    check_kind(kind)
    check_ranges(ranges)
    least, greatest = limits_of(model, kind)
    whole = 1
    for low, high in ranges:
        whole *= high - low + 1
    return whole - _ways_up_to(greatest, ranges) + _ways_up_to(least - 1, ranges)
