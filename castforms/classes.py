"""Classes of models [11]: in all models of a class each node of an expression has the same type.

What an expression demands of the widths of a class are then least widths, and its least model decides first.
"""

from castforms.expressions import literal_start
from castforms.models import PLAIN_SIGNS, RANKS, SIGNED, bits_for, is_unsigned


class ModelClass:
    """The models with a sign of `char` among plains, whose widths lie from lows to highs.

    For each rank but the last one, equal tells whether the next rank has as many bits, or more. Where plains are
    both signs, `char` occurs nowhere, and the sign means nothing.
    """

    def __init__(self, plains, equal, lows, highs):
        self.plains = plains
        self.equal = equal
        self.lows = lows
        self.highs = highs

    def least_widths(self):
        """The widths that are all least at once, None if the class has no model."""
        least = list(self.lows)
        for rank in reversed(range(len(self.equal))):
            if self.equal[rank]:
                least[rank] = max(least[rank], least[rank + 1])
        for rank, same in enumerate(self.equal):
            least[rank + 1] = max(least[rank + 1], least[rank] if same else least[rank] + 1)
        if any([bits > high for bits, high in zip(least, self.highs)]):
            return None
        return tuple(least)

    def least_model(self):
        """The least model, which has all widths least; None if the class has none."""
        widths = self.least_widths()
        return None if widths is None else (widths, self.plains[0])

    def above(self, widths):
        """The models of the class whose widths are not less than these."""
        lows = [max(pair) for pair in zip(self.lows, widths)]
        return ModelClass(self.plains, self.equal, lows, self.highs)

    def clean_part(self, demands):
        """The models of the class in which the demands of an expression are met."""
        return self.above(demands.widths_in(self.least_model()))

    def with_first_fit(self, start, rank, bits):
        """The models of the class in which this rank is the first one, from the rank start on, with so many bits."""
        lows, highs = list(self.lows), list(self.highs)
        lows[rank] = max(lows[rank], bits)
        for lesser in range(start, rank):
            highs[lesser] = min(highs[lesser], bits - 1)
        return ModelClass(self.plains, self.equal, lows, highs)


def classes_of(variables, rows, minima, most):
    """The list of all classes with a model that admits variables and the literals of rows.

    Only models are meant whose widths are at least minima and at most a number.
    """
    literals = _sizes_of_literals(rows)
    found = []
    for plains in _signs_that_differ(variables, rows):
        lows = _admitting_widths(plains[0], variables, minima)
        for equal in _patterns():
            whole = ModelClass(plains, equal, lows, [most] * len(SIGNED))
            found.extend(_split(whole, literals))
    return found


def _signs_that_differ(variables, rows):
    """The signs of `char`, those in one tuple that make no difference."""
    kinds = [row[1] for row in variables] + [node[1] for _, node, _ in rows if node[0] == "cast"]
    if "char" in kinds:
        return [(plain,) for plain in PLAIN_SIGNS]
    return [PLAIN_SIGNS]


def _patterns():
    """All ways in which neighbouring widths are equal or not."""
    found = [[]]
    for _ in range(len(SIGNED) - 1):
        found = [pattern + [same] for pattern in found for same in (True, False)]
    return found


def _admitting_widths(plain, variables, minima):
    """The least widths, not less than minima, with which the types of the variables hold their values."""
    lows = list(minima)
    for _, kind, low, high in variables:
        signed, unsigned = bits_for(low, high)
        # Whether a type is unsigned depends on no width.
        bits = unsigned if is_unsigned((minima, plain), kind) else signed
        lows[RANKS[kind]] = max(lows[RANKS[kind]], bits)
    return lows


def _sizes_of_literals(rows):
    """For each literal the least rank that it can have, and the bits that it needs."""
    found = []
    for _, node, _ in rows:
        if node[0] == "lit":
            signed, unsigned = bits_for(node[1], node[1])
            found.append((literal_start(node[2]), unsigned if "u" in node[2] else signed))
    return found


def _split(whole, literals):
    """The classes with a model into which the types of literals part a class."""
    if whole.least_widths() is None:
        return []
    if not literals:
        return [whole]
    start, bits = literals[0]
    found = []
    for rank in range(start, len(SIGNED)):
        found.extend(_split(whole.with_first_fit(start, rank, bits), literals[1:]))
    return found
