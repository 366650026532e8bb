"""The models up to a width that admit an expression, and those in which it is clean: counted and numbered."""

from castforms.classes import classes_of
from castforms.clean import Demands
from castforms.errors import InvalidNumber
from castforms.expressions import check_expression, check_variables
from castforms.models import GREATEST_WIDTH, LEAST_WIDTH

LEAST_WIDTHS = (2, 2, 2, 2, 2)


def check_most(most):
    """Most check."""
    if not LEAST_WIDTH <= most <= GREATEST_WIDTH:
        raise InvalidNumber(most)


def ways_of(whole):
    """For each rank a list with, for each width, the ways to choose the widths from this rank on in a class."""
    later = [1] * (GREATEST_WIDTH + 1)
    found = []
    for rank in reversed(range(len(whole.lows))):
        low, high = whole.lows[rank], whole.highs[rank]
        row = [ways if low <= bits <= high else 0 for bits, ways in enumerate(later)]
        found.append(row)
        later = row if rank > 0 and whole.equal[rank - 1] else _beyond(row)
    found.reverse()
    return found


def _beyond(row):
    """For each width, the sum of the ways at all greater ones."""
    sums = [0] * len(row)
    for bits in reversed(range(len(row) - 1)):
        sums[bits] = sums[bits + 1] + row[bits + 1]
    return sums


def _count(classes):
    return sum([sum(ways_of(whole)[0]) * len(whole.plains) for whole in classes])


def _checked_classes(variables, expression, most):
    """The classes of the models that admit an expression, and the parts of them in which it is clean."""
    check_variables(variables)
    check_expression(variables, expression)
    check_most(most)
    demands = Demands(variables, expression)
    classes = classes_of(variables, demands.rows, LEAST_WIDTHS, most)
    return (classes, [whole.clean_part(demands) for whole in classes])


def count_models(variables, expression, most):
    """The number of the models that admit an expression, and of those in which it is also clean."""
    classes, clean = _checked_classes(variables, expression, most)
    return (_count(classes), _count(clean))


def nth_clean_model(variables, expression, most, number):
    """The model with a number, from 0 on, of those in which an expression is clean."""
    _, classes = _checked_classes(variables, expression, most)
    if not 0 <= number < _count(classes):
        raise InvalidNumber(number)
    left = [(whole, ways_of(whole)) for whole in classes]
    ahead = number
    widths = []
    for rank in range(len(LEAST_WIDTHS)):
        for bits in range(widths[-1] if widths else LEAST_WIDTH, most + 1):
            fitting = _fitting(left, widths, bits)
            ways = sum([len(whole.plains) * table[rank][bits] for whole, table in fitting])
            if ahead < ways:
                break
            ahead -= ways
        widths.append(bits)
        left = fitting
    plains = sorted([plain for whole, _ in left for plain in whole.plains])
    return (tuple(widths), plains[ahead])


def _fitting(left, widths, bits):
    """The classes, with their ways, that have a model with these widths and then this one."""
    rank = len(widths)
    found = [pair for pair in left if pair[1][rank][bits] > 0]
    if rank == 0:
        return found
    # No width is less than the one before.
    return [pair for pair in found if pair[0].equal[rank - 1] == (bits == widths[-1])]
