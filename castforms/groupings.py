"""The groupings of the terms of a sum that are clean: counted and numbered, in one model and in all."""

from castforms.classes import classes_of
from castforms.clean import Demands
from castforms.errors import InvalidNumber
from castforms.expressions import check_admission, check_expression, check_variables, rows_of
from castforms.models import GREATEST_WIDTH
from castforms.models import bits_for, bits_of, check_model, check_widths, common_kind, is_unsigned


def joined(terms):
    """The expression in which all terms are added from the left."""
    whole = terms[0]
    for term in terms[1:]:
        whole = ("add", whole, term)
    return whole


def check_terms(variables, terms):
    """Terms check."""
    if not terms:
        raise InvalidNumber(0)
    check_expression(variables, joined(terms))


class Groupings:
    """The groupings of terms that are clean in all of some models, which all admit the terms.

    A stretch (start, end) is of the terms from one on up to another one, without that. The common type of its
    terms, and the values of their sum, are the same however they are grouped.
    """

    def __init__(self, variables, terms, models):
        self.terms = terms
        self.demands = [Demands(variables, term) for term in terms]
        # For each stretch a dict from 0, for signed types, and 1, for unsigned ones, to the least bits that a common
        # type of its terms has: what it holds with these it holds in all models.
        self.least_bits = {stretch: {} for stretch in self.stretches(2)}
        for model in models:
            self.add_model(model)
        self.counts = {}
        for at, demands in enumerate(self.demands):
            self.counts[(at, at + 1)] = 1 if all([demands.are_met(model) for model in models]) else 0
        for start, end in self.stretches(2):
            self.counts[(start, end)] = sum([self.ways(start, middle, end) for middle in range(start + 1, end)])

    def stretches(self, least):
        """The list of all stretches of at least so many terms, shorter ones ahead."""
        many = len(self.terms)
        return [(start, start + size) for size in range(least, many + 1) for start in range(many - size + 1)]

    def add_model(self, model):
        kinds = [demands.kinds_in(model)[-1] for demands in self.demands]
        for start, first in enumerate(kinds):
            kind = first
            for end in range(start + 2, len(kinds) + 1):
                kind = common_kind(model, kind, kinds[end - 1])
                least = self.least_bits[(start, end)]
                sign = 1 if is_unsigned(model, kind) else 0
                bits = bits_of(model, kind)
                least[sign] = min(least.get(sign, bits), bits)

    def is_held(self, start, end, least):
        """Whether types with the least bits hold the sum of a stretch."""
        spans = [demands.spans[-1] for demands in self.demands[start:end]]
        needed = bits_for(sum([low for low, _ in spans]), sum([high for _, high in spans]))
        return all([needed[sign] <= least[sign] for sign in least])

    def ways(self, start, middle, end):
        """The number of the clean groupings of a stretch that add its terms up to the middle and those behind."""
        least = self.least_bits[(start, end)]
        # Both parts are converted to the common type of all, which is then that of the result.
        for first, last in ((start, middle), (middle, end), (start, end)):
            if not self.is_held(first, last, least):
                return 0
        return self.counts[(start, middle)] * self.counts[(middle, end)]

    def grouping(self, start, end, number):
        """The clean grouping of a stretch with a number."""
        if end - start == 1:
            return self.terms[start]
        middle = start + 1
        ahead = number
        while ahead >= self.ways(start, middle, end):
            ahead -= self.ways(start, middle, end)
            middle += 1
        first, second = divmod(ahead, self.counts[(middle, end)])
        return ("add", self.grouping(start, middle, first), self.grouping(middle, end, second))


def _checked_groupings(model, variables, terms):
    check_model(model)
    check_variables(variables)
    check_terms(variables, terms)
    check_admission(model, variables, joined(terms))
    return Groupings(variables, terms, [model])


def count_groupings(model, variables, terms):
    """The number of the groupings of terms that are clean in a model."""
    return _checked_groupings(model, variables, terms).counts[(0, len(terms))]


def nth_grouping(model, variables, terms, number):
    """The grouping with a number, from 0 on, of those that are clean in a model."""
    groupings = _checked_groupings(model, variables, terms)
    if not 0 <= number < groupings.counts[(0, len(terms))]:
        raise InvalidNumber(number)
    return groupings.grouping(0, len(terms), number)


def count_portable_groupings(variables, terms, minima=(8, 16, 16, 32, 64)):
    """The number of the groupings of terms that are clean in every model that admits them."""
    check_variables(variables)
    check_terms(variables, terms)
    check_widths(minima)
    classes = classes_of(variables, rows_of(joined(terms)), minima, GREATEST_WIDTH)
    # What is clean in the least model of a class is clean in all of them.
    models = [whole.least_model() for whole in classes]
    return Groupings(variables, terms, models).counts[(0, len(terms))]
