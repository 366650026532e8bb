"""The fewest casts around expressions within an expression with which it is clean in several models."""

from castforms.clean import Demands, is_wide_enough
from castforms.errors import InvalidNumber
from castforms.expressions import CONDITIONS, ITEMS, PART_FORMS
from castforms.expressions import check_admission, check_expression, check_variables, own_kind
from castforms.models import KINDS, bits_for, check_model


def check_models(models):
    """Models check."""
    if not models:
        raise InvalidNumber(0)
    for model in models:
        check_model(model)


class Casting:
    """The ways to put casts into an expression such that it is clean in all of some models.

    A table of a node is a dict from the tuples of its types, one for each model, to tuples (casts, ways, example):
    the least number of casts within the node and around it that give it these types, the number of ways to put so
    many, and the node with one of them. All else that decides about the steps above it, the mathematical values
    and what runs, no cast changes. A condition has no types: its tuple is empty.
    """

    def __init__(self, models, variables, expression):
        self.models = models
        self.demands = Demands(variables, expression)
        self.tables = []
        for at, row in enumerate(self.demands.rows):
            table = self.table_without(at)
            if row[1][0] not in CONDITIONS:
                self.add_casts_around(at, table)
            self.tables.append(table)

    def table_without(self, at):
        """The table of a node without casts around the node itself."""
        _, node, places = self.demands.rows[at]
        needed = self.demands.bits_at(at)
        table = {}
        for of_parts, casts, ways, examples in _combinations([self.tables[place] for place in places]):
            kinds = self.kinds_above(node, of_parts)
            if self.are_wide_enough(kinds, needed):
                _put(table, () if node[0] in CONDITIONS else kinds, (casts, ways, _with_parts(node, examples)))
        return table

    def kinds_above(self, node, of_parts):
        """The types in which a node computes, one for each model, from the tuples of those of its parts."""
        found = []
        for number, model in enumerate(self.models):
            found.append(own_kind(model, self.demands.named, node, [kinds[number] for kinds in of_parts if kinds]))
        return tuple(found)

    def are_wide_enough(self, kinds, needed):
        # Where a condition has no type it has no steps.
        pairs = [(model, kind) for model, kind in zip(self.models, kinds) if kind is not None]
        return all([is_wide_enough(model, kind, needed) for model, kind in pairs])

    def add_casts_around(self, at, table):
        """Adds to the table of a node, made without them, the casts around the node itself."""
        if not table:
            return
        casts, ways, example = _best_of(table)
        low, high = self.demands.spans[at]
        needed = bits_for(low, high) if self.demands.reached[at] else (0, 0)
        for kind in KINDS:
            kinds = (kind,) * len(self.models)
            if self.are_wide_enough(kinds, needed):
                _put(table, kinds, (casts + 1, ways, ("cast", kind, example)))


def _combinations(tables):
    """All ways to take an entry of each table: tuples of the list of types, casts, ways and the list of examples."""
    found = [([], 0, 1, [])]
    for table in tables:
        found = [(of_parts + [kinds], casts + entry[0], ways * entry[1], examples + [entry[2]])
                 for of_parts, casts, ways, examples in found for kinds, entry in table.items()]
    return found


def _put(table, kinds, entry):
    """Puts an entry into a table, beside what stands there with as many casts."""
    held = table.get(kinds)
    if held is None or entry[0] < held[0]:
        table[kinds] = entry
    elif entry[0] == held[0]:
        table[kinds] = (held[0], held[1] + entry[1], held[2])


def _best_of(table):
    """What a table comes to whatever the types are; the table is not empty."""
    merged = {}
    for entry in table.values():
        _put(merged, (), entry)
    return merged[()]


def _with_parts(node, new_parts):
    """A node with other parts."""
    left = list(new_parts)
    items = [node[0]]
    for form, item in zip(ITEMS[node[0]], node[1:]):
        items.append(left.pop(0) if form in PART_FORMS else item)
    return tuple(items)


def _best_casting(models, variables, expression):
    """The least number of casts, the number of ways to put so many, and an example."""
    check_models(models)
    check_variables(variables)
    check_expression(variables, expression)
    for model in models:
        check_admission(model, variables, expression)
    whole = Casting(models, variables, expression).tables[-1]
    return _best_of(whole) if whole else (None, 0, None)


def fewest_casts(models, variables, expression):
    """The least number of casts with which an expression is clean in all models, None if it cannot be."""
    return _best_casting(models, variables, expression)[0]


def count_ways(models, variables, expression):
    """The number of ways to put the fewest casts, 0 if the expression cannot be clean."""
    return _best_casting(models, variables, expression)[1]


def with_casts(models, variables, expression):
    """An expression with the fewest casts that is clean in all models, None if it cannot be."""
    return _best_casting(models, variables, expression)[2]
