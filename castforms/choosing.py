"""The cheapest types for the variables of an expression with which it is clean in a model."""

from castforms.clean import Demands, is_wide_enough
from castforms.expressions import CONDITIONS, check_admission, check_expression, check_variables, own_kind
from castforms.models import KINDS, bits_of, check_model, is_held


class Choosing:
    """The cheapest choices of types for variables.

    A choice is a tuple (bits, places): the sum of the bits of the types that are chosen, and the list of their places
    among all types, one for each variable, 0 where none is chosen. Of several choices for the same variables the
    least one is the cheapest one that is first in order, and it stays so beside any choice for other variables.

    A table of a node is a dict from its types to the least choices for the variables within that give it this type,
    and with which all steps within are clean. A condition has no type: its key is None.
    """

    def __init__(self, model, variables, expression):
        self.model = model
        self.variables = variables
        self.demands = Demands(variables, expression)
        self.unused = {row[0]: at for at, row in enumerate(variables)}
        self.tables = []
        for at, row in enumerate(self.demands.rows):
            node = row[1]
            if node[0] == "var":
                self.tables.append(self.table_for(self.unused.pop(node[1])))
            else:
                self.tables.append(self.table_of(at))

    def table_for(self, number):
        """The table of the variable with an index."""
        _, _, low, high = self.variables[number]
        table = {}
        for place, kind in enumerate(KINDS):
            if is_held(self.model, kind, low) and is_held(self.model, kind, high):
                places = [0] * len(self.variables)
                places[number] = place
                table[kind] = (bits_of(self.model, kind), places)
        return table

    def table_of(self, at):
        """The table of a node that is no variable."""
        _, node, places = self.demands.rows[at]
        needed = self.demands.bits_at(at)
        table = {}
        for kinds, choice in self.combinations([self.tables[place] for place in places]):
            kind = own_kind(self.model, {}, node, kinds)
            # Where a condition has no type it has no steps.
            if kind is None or is_wide_enough(self.model, kind, needed):
                key = None if node[0] in CONDITIONS else kind
                table[key] = min(choice, table.get(key, choice))
        return table

    def combinations(self, tables):
        """All ways to take an entry of each table: tuples of the list of types and the choice of all together."""
        found = [([], (0, [0] * len(self.variables)))]
        for table in tables:
            found = [(kinds + [kind], _together(choice, other))
                     for kinds, choice in found for kind, other in table.items()]
        return found

    def best(self):
        """The least choice for all variables, None if there is none."""
        tables = [self.tables[-1]] + [self.table_for(self.unused[name]) for name in self.unused]
        found = (0, [0] * len(self.variables))
        for table in tables:
            if not table:
                return None
            found = _together(found, min(list(table.values())))
        return found


def _together(first, second):
    """The choice of two choices for different variables."""
    return (first[0] + second[0], [one + other for one, other in zip(first[1], second[1])])


def cheapest_types(model, variables, expression):
    """The list of the types with the least sum of bits with which an expression is clean, None if there is none."""
    check_model(model)
    check_variables(variables)
    check_expression(variables, expression)
    # The types that the variables have do not matter: without them only literals are left.
    check_admission(model, [], expression)
    choice = Choosing(model, variables, expression).best()
    return None if choice is None else [KINDS[place] for place in choice[1]]
