"""Whether expressions are clean in a model, and the first step that is not."""

from castforms.expressions import check_admission, check_expression, check_variables
from castforms.expressions import kinds_by_name, kinds_of, rows_of
from castforms.models import RANKS, SIGNED, UNHELD, bits_for, bits_of, check_model, is_unsigned
from castforms.ranges import corners, spans_of
from castforms.runs import exact


def gate(node, number):
    """What the first part of a node is if the part with a number runs, None if this part always runs."""
    word = node[0]
    if word == "if" and number > 0:
        return number == 1
    if word in ("and", "or") and number == 1:
        return word == "and"
    return None


class Demands:
    """What an expression demands of a model in which it is clean, whatever the model [10].

    A demand is a tuple (at, word, source): the step with a word of the node at a place in the rows, and the place
    of the node whose values this step keeps if it is clean; `bits` has what each demand takes. Demands are in the
    order of the steps. Up to the first step that is not clean all values are the mathematical ones, so these alone
    decide which step it is.
    """

    def __init__(self, variables, expression):
        self.lowest = {row[0]: row[2] for row in variables}
        self.named = kinds_by_name(variables)
        self.rows = rows_of(expression)
        self.spans = spans_of(variables, self.rows)
        self.reached = self.places_that_run()
        self.demands = []
        for at, runs in enumerate(self.reached):
            if runs:
                self.demands.extend(self.demands_at(at))
        self.bits = [self.bits_of_step(demand, self.spans[demand[2]]) for demand in self.demands]

    def places_that_run(self):
        """For each row, whether some values lead a run to it."""
        reached = [False] * (len(self.rows) - 1) + [True]
        for at in reversed(range(len(self.rows))):
            _, node, places = self.rows[at]
            for number, place in enumerate(places):
                needed = gate(node, number)
                reached[place] = reached[at] and (needed is None or needed in self.spans[places[0]])
        return reached

    def demands_at(self, at):
        """The demands of the steps of a node itself, without those of its parts."""
        _, node, places = self.rows[at]
        word = node[0]
        found = []
        if word == "if":
            if True in self.spans[places[0]]:
                found.append((at, "first", places[1]))
            if False in self.spans[places[0]]:
                found.append((at, "second", places[2]))
        if word in ("add", "sub", "mul", "less", "most"):
            found.append((at, "first", places[0]))
            found.append((at, "second", places[1]))
        if word in ("add", "sub", "mul", "neg", "shl", "shr", "cast"):
            found.append((at, "result", at))
        return found

    def bits_of_step(self, demand, span):
        """The bits, of a signed and of an unsigned type, with which a step is clean for values of a span."""
        at, word, _ = demand
        node = self.rows[at][1]
        low, high = span
        signed, unsigned = bits_for(low, high)
        if word != "result" or node[0] not in ("shl", "shr"):
            return (signed, unsigned)
        if node[0] == "shl" and low < 0:
            return (UNHELD, UNHELD)
        return (max(signed, node[2] + 1), max(unsigned, node[2] + 1))

    def bits_at(self, at):
        """The bits, of a signed and of an unsigned type, with which all steps of a node itself are clean."""
        found = [bits for demand, bits in zip(self.demands, self.bits) if demand[0] == at]
        return (max([signed for signed, _ in found], default=0), max([unsigned for _, unsigned in found], default=0))

    def kinds_in(self, model):
        return kinds_of(model, self.named, self.rows)

    def widths_in(self, model):
        """The least width for each rank with which all demands are met, where the types are as in the model."""
        kinds = self.kinds_in(model)
        widths = [0] * len(SIGNED)
        for demand, needed in zip(self.demands, self.bits):
            kind = kinds[demand[0]]
            rank = RANKS[kind]
            widths[rank] = max(widths[rank], bits_needed(model, kind, needed))
        return widths

    def are_met(self, model):
        return all([least <= bits for least, bits in zip(self.widths_in(model), model[0])])

    def first_unmet(self, model):
        """The first demand that is not met, None if there is none."""
        kinds = self.kinds_in(model)
        for demand, needed in zip(self.demands, self.bits):
            kind = kinds[demand[0]]
            if not is_wide_enough(model, kind, needed):
                return demand
        return None

    def values_against(self, model, demand):
        """Values of all variables with which a run comes to the step of an unmet demand, and it is not clean."""
        at, _, source = demand
        low, high = self.spans[source]
        kind = self.kinds_in(model)[at]
        found = {name: self.lowest[name] for name in self.lowest}
        self.lead_to(source, found)
        needed = self.bits_of_step(demand, (low, low))
        self.aim(source, high if is_wide_enough(model, kind, needed) else low, found)
        return found

    def lead_to(self, source, found):
        """Gives the variables of conditions such values that a run comes to a node."""
        at = len(self.rows) - 1
        for number in self.rows[source][0]:
            _, node, places = self.rows[at]
            needed = gate(node, number)
            if needed is not None:
                self.aim(places[0], needed, found)
            at = places[number]

    def aim(self, at, end, found):
        """Gives the variables within a node such values that its value is this end of its span."""
        _, node, places = self.rows[at]
        if node[0] == "var":
            found[node[1]] = end
            return
        for corner in corners([self.spans[place] for place in places]):
            if exact(node, corner) == end:
                for place, part_end in zip(places, corner):
                    self.aim(place, part_end, found)
                return


def bits_needed(model, kind, needed):
    """Those that are needed of a type, by the bits (signed, unsigned) that are needed of one with either sign."""
    return needed[1] if is_unsigned(model, kind) else needed[0]


def is_wide_enough(model, kind, needed):
    """Whether a type has the bits that are needed of one with its sign."""
    return bits_of(model, kind) >= bits_needed(model, kind, needed)


def _checked_demands(model, variables, expression):
    check_model(model)
    check_variables(variables)
    check_expression(variables, expression)
    check_admission(model, variables, expression)
    return Demands(variables, expression)


def is_clean(model, variables, expression):
    """Whether an expression is clean in a model."""
    return _checked_demands(model, variables, expression).are_met(model)


def first_unclean(model, variables, expression):
    """The first unclean step as (path, word, values), with values for which it is not clean; None if there is none."""
    demands = _checked_demands(model, variables, expression)
    unmet = demands.first_unmet(model)
    if unmet is None:
        return None
    at, word, _ = unmet
    return (demands.rows[at][0], word, demands.values_against(model, unmet))
